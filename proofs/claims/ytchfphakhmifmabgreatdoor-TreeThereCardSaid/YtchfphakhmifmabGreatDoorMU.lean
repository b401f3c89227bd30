import Derived.Test.YtchfphakhmifmabGreatDoorMW
import Derived.Test.YtchfphakhmifmabGreatDoorXI
import Derived.Test.YtchfphakhmifmabGreatDoorRef18
namespace Go.Proofs.YtchfphakhmifmabGreatDoor
set_option maxRecDepth 1000000
set_option maxHeartbeats 16000000
open Go.ChangeShapes Go.WideShapes Go.ChangeAt Go.RowKit Go.Shelf Go.Lib
def nmB (c:Nat):Bool:=decide (c ≠ 60 ∧ c ≠ 62 ∧ c ≠ 47 ∧ c ≠ 61 ∧ c ≠ 34 ∧ c ≠ 39 ∧ c ≠ 38) && !bla c
theorem rnameByte (c:Nat) (w:World):Calls Tryz.prog 177 #[.int .u8 (c:Int)] w fun e w'=>e = .returned (.bool (nmB c)) ∧ w' = w:=by
 have cB:=fun w=>rblank4 c w
 by_cases h:c = 60 ∨ c = 62 ∨ c = 47 ∨ c = 61 ∨ c = 34 ∨ c = 39 ∨ c = 38
 ·have hz:nmB c = false:=by
   unfold nmB
   rw [decide_eq_false (by omega),Bool.false_and]
  rw [hz]
  clear hz cB
  rcases h with rfl | rfl | rfl | rfl | rfl | rfl | rfl
  all_goals
   go_enter Tryz.func177,Tryz.ntmps177
   go_wp2_with fail
   go_ret
   exact ⟨rfl,rfl⟩
 ·have hz:nmB c = !bla c:=by
   unfold nmB
   rw [decide_eq_true (by omega),Bool.true_and]
  rw [hz]
  have k1:((c:Int) == 60) = false:=beq_eq_false_iff_ne.2 (by omega)
  have k2:((c:Int) == 62) = false:=beq_eq_false_iff_ne.2 (by omega)
  have k3:((c:Int) == 47) = false:=beq_eq_false_iff_ne.2 (by omega)
  have k4:((c:Int) == 61) = false:=beq_eq_false_iff_ne.2 (by omega)
  have k5:((c:Int) == 34) = false:=beq_eq_false_iff_ne.2 (by omega)
  have k6:((c:Int) == 39) = false:=beq_eq_false_iff_ne.2 (by omega)
  have k7:((c:Int) == 38) = false:=beq_eq_false_iff_ne.2 (by omega)
  clear h hz
  generalize bla c = b at *
  go_enter Tryz.func177,Tryz.ntmps177
  go_wp2_with (go_at_call 161;refine (cB _).mono ?_;rintro e w1 ⟨rfl,rfl⟩)
  go_ret
  exact ⟨rfl,rfl⟩
def rowN (s:ByteArray) (a:Nat):Nat:=a + ((lOf s).drop a).findIdx (fun c=>!nmB c)
theorem rowN_yes {s:ByteArray} {a:Nat} (h:a < s.size) (e:nmB (ch s a) = true):rowN s a = rowN s (a + 1):=by
 unfold rowN
 rw [lOf_drop s a h,List.findIdx_cons,e]
 simp
 omega
theorem rowN_no {s:ByteArray} {a:Nat} (h:a < s.size) (e:nmB (ch s a) = false):rowN s a = a:=by
 unfold rowN
 rw [lOf_drop s a h,List.findIdx_cons,e]
 simp
theorem rowN_end (s:ByteArray):rowN s s.size = s.size:=by
 unfold rowN
 rw [List.drop_eq_nil_of_le (by rw [lOf_length];exact Nat.le_refl _)]
 rfl
theorem rowN_le (s:ByteArray) (a:Nat) (h:a ≤ s.size):a ≤ rowN s a ∧ rowN s a ≤ s.size:=by
 unfold rowN
 have:((lOf s).drop a).findIdx (fun c=>!nmB c) ≤ ((lOf s).drop a).length:=List.findIdx_le_length
 rw [List.length_drop,lOf_length] at this
 omega
theorem rrow (R:Nat) (s:ByteArray) (a:Nat) (w:World) (h:RA w R s a) (ha:a ≤ s.size) (hs:s.size ≤ 9223372036854775800) :
  Calls Tryz.prog 159 #[.pointer (some ⟨R,0,none⟩)] w fun e w'=>e = .returned (.int .i64 (rowN s a:Int)) ∧ w' = w:=by
 have c0:=h.h0
 have c1:=h.h1
 go_enter Tryz.func159,Tryz.ntmps159
 go_wp2_with fail
 go_loop [3] (fun i=>∃ b:Nat,a ≤ b ∧ b ≤ s.size ∧ i = .int .i64 (b:Int) ∧ Hid (rowN s b = rowN s a)) (fun i=>s.size - (RowKit.intOf i).toNat)
 case atStart=>exact ⟨a,Nat.le_refl _,ha,rfl,rfl⟩
 case round =>
  obtain ⟨b,hab,hbs,rfl,hN⟩:=hrel
  by_cases hlt:b < s.size
  ·have hlt2:(b:Int) < s.size:=by omega
   have ix:∀ w:World,(Instr.index 9 (.string s) (.int .i64 (b:Int))).run Tryz.prog w = .ok (.int .u8 (ch s b:Int)) w:=fun w=>idx (w:=w) s b hlt .i64
   have cN:=fun w=>rnameByte (ch s b) w
   cases hb:nmB (ch s b)
   ·rw [hb] at cN
    have hz:Hid (rowN s a = b):=hN.out.symm.trans (rowN_no hlt hb)
    clear hb
    go_wp2_with (go_at_call 177;refine (cN _).mono ?_;rintro e w1 ⟨rfl,rfl⟩)
    go_ret
    exact ⟨by rw [hz.out];rfl,rfl⟩
   ·rw [hb] at cN
    have hz:Hid (rowN s (b + 1) = rowN s a):=(rowN_yes hlt hb).symm.trans hN.out
    clear hb
    go_wp2_with (go_at_call 177;refine (cN _).mono ?_;rintro e w1 ⟨rfl,rfl⟩)
    go_round
    case rel=>exact ⟨b + 1,by omega,by omega,by go_num,hz⟩
    case measure=>simp [RowKit.intOf];omega
  ·obtain rfl:b = s.size:=by omega
   have hlt2:¬ (s.size:Int) < s.size:=by omega
   have hz:Hid (rowN s a = s.size):=hN.out.symm.trans (rowN_end s)
   go_wp2_with fail
   go_ret
   exact ⟨by rw [hz.out];rfl,rfl⟩
structure RX (w:World) (R:Nat) (s:ByteArray) (a:Nat) (v:Value) (er fl:Nat):Prop where
 c0:w.cell? ⟨R,0,none⟩ = some (.string s)
 c1:w.cell? ⟨R,1,none⟩ = some (.int .i64 (a:Int))
 c2:w.cell? ⟨R,2,none⟩ = some v
 c3:w.cell? ⟨R,3,none⟩ = some (.int .i64 (er:Int))
 c4:w.cell? ⟨R,4,none⟩ = some (.int .i64 (fl:Int))
 fz:∀ o,w.frozen? ⟨R,o,none⟩ = false
theorem RX.lt {w:World} {R:Nat} {s:ByteArray} {a:Nat} {v:Value} {er fl:Nat} (h:RX w R s a v er fl):R < w.heap.size:=World.block_lt_of_cell? w ⟨R,0,none⟩ h.c0
theorem RX.ra {w:World} {R:Nat} {s:ByteArray} {a:Nat} {v:Value} {er fl:Nat} (h:RX w R s a v er fl):RA w R s a:=⟨h.c0,h.c1,h.fz,h.lt⟩
theorem RX.mv {w w':World} {R:Nat} {s:ByteArray} {a b:Nat} {v:Value} {er fl:Nat} (h:RX w R s a v er fl) (m:Mv R w w') (hb:RA w' R s b):RX w' R s b v er fl :=
 ⟨hb.h0,hb.h1,(m.cell 2 (by decide)).trans h.c2,(m.cell 3 (by decide)).trans h.c3,(m.cell 4 (by decide)).trans h.c4,hb.fz⟩
theorem RX.below {w w':World} {R:Nat} {s:ByteArray} {a:Nat} {v:Value} {er fl:Nat} (h:RX w R s a v er fl) (hb:Below w.heap.size w w'):RX w' R s a v er fl :=
 ⟨(hb.cell (p:=⟨R,_,none⟩) h.lt).trans h.c0,(hb.cell (p:=⟨R,_,none⟩) h.lt).trans h.c1,(hb.cell (p:=⟨R,_,none⟩) h.lt).trans h.c2,(hb.cell (p:=⟨R,_,none⟩) h.lt).trans h.c3,(hb.cell (p:=⟨R,_,none⟩) h.lt).trans h.c4,fun o=>(hb.frozen (p:=⟨R,o,none⟩) h.lt).trans (h.fz o)⟩
theorem But.setX {R:Nat} {w wr:World} (h:But R w wr) (o:Nat) (u:Value):But R w (wr.setCell ⟨R,o,none⟩ u) :=
 ⟨h.os,h.tape,h.output,by have:=h.size;simp [World.setCell];omega,fun k hk hn=>(Below.heap_setCell wr _ _ _ (show k ≠ R from hn)).trans (h.block k hk hn)⟩
theorem cell_neX {w:World} {R i j:Nat} (u:Value) (h:i ≠ j):(w.setCell ⟨R,i,none⟩ u).cell? ⟨R,j,none⟩ = w.cell? ⟨R,j,none⟩:=World.cell?_setCell_other w _ _ _ (fun e=>h (by injection e))
theorem RX.flt {w:World} {R:Nat} {s:ByteArray} {a:Nat} {v:Value} (h:RX w R s a v 0 0) (e p:Nat):RX ((w.setCell ⟨R,3,none⟩ (.int .i64 (e:Int))).setCell ⟨R,4,none⟩ (.int .i64 (p:Int))) R s a v e p :=
 ⟨(cell_neX _ (by decide)).trans ((cell_neX _ (by decide)).trans h.c0),(cell_neX _ (by decide)).trans ((cell_neX _ (by decide)).trans h.c1),(cell_neX _ (by decide)).trans ((cell_neX _ (by decide)).trans h.c2),
  (cell_neX _ (by decide)).trans (World.cell?_setCell_same w ⟨R,3,none⟩ _ h.c3),World.cell?_setCell_same _ ⟨R,4,none⟩ _ ((cell_neX _ (by decide)).trans h.c4),fun o=>by rw [World.frozen?_setCell,World.frozen?_setCell];exact h.fz o⟩
theorem rfault (R:Nat) (s:ByteArray) (a:Nat) (v:Value) (e p:Nat) (w:World) (h:RX w R s a v 0 0) :
  Calls Tryz.prog 75 #[.pointer (some ⟨R,0,none⟩),.int .i64 (e:Int),.int .i64 (p:Int)] w fun r w'=>r = .returned (.bool false) ∧ But R w w' ∧ RX w' R s a v e p:=by
 have d3:=h.c3
 have d4:=h.c4
 have f3:=h.fz 3
 have f4:=h.fz 4
 have d4':(w.setCell ⟨R,3,none⟩ (.int .i64 (e:Int))).cell? ⟨R,4,none⟩ = some (.int .i64 0):=(cell_neX _ (by decide)).trans h.c4
 have HF:=Hid.mk' (h.flt e p)
 go_enter Tryz.func75,Tryz.ntmps75
 go_wp2_with fail
 go_ret
 exact ⟨rfl,((But.refl R w).setX _ _).setX _ _,HF.out⟩
def RZ (R:Nat) (s:ByteArray) (v:Value) (w:World) (z:Nat ⊕ (Nat × Nat)) (a:Nat) (w':World):Prop :=
 But R w w' ∧ match z with
  | .inl b=>RX w' R s b v 0 0
  | .inr (e,p)=>RX w' R s a v e p
def okZ {α β:Type}:α ⊕ β → Bool
 | .inl _=>true
 | .inr _=>false
def byteZ (s:ByteArray) (a c:Nat):Nat ⊕ (Nat × Nat):=if a = s.size then .inr (41,a) else if ch s a = c then .inl (a + 1) else .inr (40,a)
theorem rbyteIs (R:Nat) (s:ByteArray) (a:Nat) (v:Value) (c:Nat) (w:World) (h:RX w R s a v 0 0) (ha:a ≤ s.size) (hs:s.size ≤ 4611686018427387904) :
  Calls Tryz.prog 130 #[.pointer (some ⟨R,0,none⟩),.int .u8 (c:Int)] w fun r w'=>r = .returned (.bool (okZ (byteZ s a c))) ∧ RZ R s v w (byteZ s a c) a w':=by
 have d0:=h.c0
 have d1:=h.c1
 have f1:=h.fz 1
 unfold byteZ
 by_cases h0:a = s.size
 ·rw [if_pos h0]
  have k0:(a:Int) = (s.size:Int):=by omega
  have cF:=fun n=>rfault R s a v 41 a (w.drewN n) ⟨h.c0,h.c1,h.c2,h.c3,h.c4,h.fz⟩
  have HW:=Hid.mk' h
  have k1:((a:Int) == (s.size:Int)) = true:=beq_iff_eq.2 k0
  clear k0 h0
  go_enter Tryz.func130,Tryz.ntmps130
  go_wp2_with fail
  go_quiet (fail)
  go_wp2_with (go_at_call 75;refine (cF _).mono ?_;rintro e w1 ⟨rfl,hb,hx⟩)
  go_ret
  exact ⟨rfl,⟨hb.os,hb.tape,hb.output,hb.size,hb.block⟩,hx⟩
 ·rw [if_neg h0]
  have k0:((a:Int) == (s.size:Int)) = false:=beq_eq_false_iff_ne.2 (by omega)
  have k00:¬ (a:Int) = (s.size:Int):=by omega
  have ix:∀ w:World,(Instr.index 9 (.string s) (.int .i64 (a:Int))).run Tryz.prog w = .ok (.int .u8 (ch s a:Int)) w:=fun w=>idx (w:=w) s a (by omega) .i64
  have hlt:(a:Int) < (s.size:Int):=by omega
  by_cases h1:ch s a = c
  ·rw [if_pos h1]
   rw [h1] at ix
   have HP:=Hid.mk' (fun n=>h.mv ((Mv.refl R w).drewN n |>.back (.int .i64 ((a:Int) + 1))) ((h.ra.drewN n).put (b:=a + 1) ((a:Int) + 1) (by omega)))
   clear h1 h0
   go_enter Tryz.func130,Tryz.ntmps130
   go_wp2_with fail
   go_quiet (fail)
   go_wp2_with fail
   go_quiet (fail)
   go_wp2_with fail
   go_ret
   exact ⟨rfl,((Mv.refl R w).drewN _ |>.back _).but,HP.out _⟩
  ·rw [if_neg h1]
   have k1:((ch s a:Int) != (c:Int)) = true:=bne_iff_ne.2 (by omega)
   have k2:decide ((ch s a:Int) = (c:Int)) = false:=decide_eq_false (by omega)
   have cF:=fun n=>rfault R s a v 40 a (w.drewN n) ⟨h.c0,h.c1,h.c2,h.c3,h.c4,h.fz⟩
   generalize ch s a = d at *
   clear h1 h0
   go_enter Tryz.func130,Tryz.ntmps130
   go_wp2_with fail
   go_quiet (fail)
   go_wp2_with fail
   go_quiet (fail)
   go_wp2_with (go_at_call 75;refine (cF _).mono ?_;rintro e w1 ⟨rfl,hb,hx⟩)
   go_ret
   exact ⟨rfl,⟨hb.os,hb.tape,hb.output,hb.size,hb.block⟩,hx⟩
def nameY (s:ByteArray) (a:Nat):Nat ⊕ (Nat × Nat):=if a = s.size then .inr (41,a) else if xmlNameB (s.extract a (rowN s a)) = true then .inl (rowN s a) else .inr (42,a)
def nameT (s:ByteArray) (a:Nat):ByteArray:=if okZ (nameY s a) = true then s.extract a (rowN s a) else E0
theorem rname (R:Nat) (s:ByteArray) (a:Nat) (v:Value) (w:World) (h:RX w R s a v 0 0) (ha:a ≤ s.size) (hs:s.size ≤ 4611686018427387904) :
  Calls Tryz.prog 128 #[.pointer (some ⟨R,0,none⟩)] w fun r w'=>r = .returned (.tuple #[.string (nameT s a),.bool (okZ (nameY s a))]) ∧ RZ R s v w (nameY s a) a w':=by
 have d0:=h.c0
 have d1:=h.c1
 unfold nameT nameY
 by_cases h0:a = s.size
 ·rw [if_pos h0]
  have cF:=fun n=>rfault R s a v 41 a (w.drewN n) ⟨h.c0,h.c1,h.c2,h.c3,h.c4,h.fz⟩
  have k1:((a:Int) == (s.size:Int)) = true:=beq_iff_eq.2 (by omega)
  clear h0
  go_enter Tryz.func128,Tryz.ntmps128
  go_wp2_with fail
  go_quiet (fail)
  go_wp2_with (go_at_call 75;refine (cF _).mono ?_;rintro e w1 ⟨rfl,hb,hx⟩)
  exact bodyPost_ret (v:=.tuple #[.string ⟨#[]⟩,.bool false]) (by simp [results,Tryz.results128,go_sem]) rfl ⟨rfl,⟨hb.os,hb.tape,hb.output,hb.size,hb.block⟩,hx⟩
 ·rw [if_neg h0]
  have k0:((a:Int) == (s.size:Int)) = false:=beq_eq_false_iff_ne.2 (by omega)
  have k00:¬ (a:Int) = (s.size:Int):=by omega
  obtain ⟨m1,m2⟩:=rowN_le s a ha
  have cR:=fun n=>rrow R s a (w.drewN n) (h.ra.drewN n) ha (by omega)
  have hxs:(s.extract a (rowN s a)).size ≤ s.size:=ext_size_le _ _ _
  have cX:=fun w=>rXMLName (s.extract a (rowN s a)) (by omega) w
  generalize rowN s a = b at *
  have j1:(a:Int) ≤ (b:Int):=by omega
  have j2:(b:Int) ≤ (s.size:Int):=by omega
  have HX:=Hid.mk' h
  cases hx:xmlNameB (s.extract a b)
  ·rw [hx] at cX
   simp only [Bool.false_eq_true,if_false]
   clear hx h0 hxs
   go_enter Tryz.func128,Tryz.ntmps128
   go_wp2_with fail
   go_quiet (fail)
   go_wp2_with (go_at_call 159;refine (cR _).mono ?_;rintro e w1 ⟨rfl,rfl⟩)
   go_quiet (fail)
   go_wp2_with (first
    | (go_at_call 160;refine (cX _).mono ?_;rintro e w2 ⟨rfl,hb2⟩;have HY:=Hid.mk' (RX.below (w:=w.drewN _) ⟨HX.out.c0,HX.out.c1,HX.out.c2,HX.out.c3,HX.out.c4,HX.out.fz⟩ hb2);have y1:=HY.out.c1)
    | (go_at_call 75;refine (rfault R s a v 42 a _ HY.out).mono ?_;rintro e w3 ⟨rfl,hb,hx⟩))
   exact bodyPost_ret (v:=.tuple #[.string ⟨#[]⟩,.bool false]) (by simp [results,Tryz.results128,go_sem]) rfl ⟨rfl,(show But R w w2 from ⟨hb2.os,hb2.tape,hb2.output,hb2.size,fun k hk _=>hb2.block k hk⟩).trans hb,hx⟩
  ·rw [hx] at cX
   rw [if_pos rfl]
   clear hx h0 hxs
   go_enter Tryz.func128,Tryz.ntmps128
   go_wp2_with fail
   go_quiet (fail)
   go_wp2_with (go_at_call 159;refine (cR _).mono ?_;rintro e w1 ⟨rfl,rfl⟩)
   go_quiet (fail)
   go_wp2_with (go_at_call 160;refine (cX _).mono ?_;rintro e w2 ⟨rfl,hb2⟩;have HY:=Hid.mk' (RX.below (w:=w.drewN _) ⟨HX.out.c0,HX.out.c1,HX.out.c2,HX.out.c3,HX.out.c4,HX.out.fz⟩ hb2);have y1:=HY.out.c1;have y2:=HY.out.fz 1)
   exact bodyPost_ret (v:=.tuple #[.string (s.extract a b),.bool true]) (by simp [results,Tryz.results128,go_sem]) rfl ⟨rfl,(show But R w w2 from ⟨hb2.os,hb2.tape,hb2.output,hb2.size,fun k hk _=>hb2.block k hk⟩).setX _ _,HY.out.mv (Mv.set R _ _) (HY.out.ra.put _ rfl)⟩
structure RP (w:World) (R:Nat) (s:ByteArray) (a:Nat) (al:List IT) (er fl:Nat):Prop where
 x:∃ v,RX w R s a v er fl ∧ w.ownsRow (R + 1) 67 4 v al.length (itCells al)
theorem ownI_below {w w':World} {base:Nat} {v:Value} {n:Nat} {xs:List Value} (h:w.ownsRow base 67 4 v n xs) (hb:Below w.heap.size w w'):w'.ownsRow base 67 4 v n xs:=by
 refine World.ownsRow.kept (row:=none) h ⟨hb.os,hb.tape,hb.output,hb.size,fun k hk _=>hb.block k hk⟩ ?_
 cases hv:v.ownBlock <;> simp
theorem RP.put {w:World} {R:Nat} {s:ByteArray} {a:Nat} {al:List IT} {er fl:Nat} {v:Value} (h:RX w R s a v er fl) (own:w.ownsRow (R + 1) 67 4 v al.length (itCells al)) (hl:al.length ≤ 1048576) (t:IT) :
  ∃ v' w',(∀ ty,(Builtin.append_ #[62,62] ty #[v,.slice (some ⟨w.heap.size,0,none⟩) 1 1]).run Tryz.prog (w.alloc (.cells #[.int .i64 t.k,.string t.nm,.string t.vl,.int .i64 t.p] 67)) = .ok v' w') ∧
   Below (R + 1) w w' ∧ RX w' R s a v er fl ∧ w'.ownsRow (R + 1) 67 4 v' (al ++ [t]).length (itCells (al ++ [t])):=by
 have hR:=h.lt
 have b3:=bel1 w (.cells #[.int .i64 t.k,.string t.nm,.string t.vl,.int .i64 t.p] 67)
 have hTK:=TK.of (heap_new w (.cells #[.int .i64 t.k,.string t.nm,.string t.vl,.int .i64 t.p] 67))
 have hB:IRow (w.alloc (.cells #[.int .i64 t.k,.string t.nm,.string t.vl,.int .i64 t.p] 67)) (some ⟨w.heap.size,0,none⟩) (w.heap.size + 1) [t] :=
  ⟨fun i t' ht=>by
   cases i with
   | succ i=>cases ht
   | zero=>cases ht;exact ⟨_,0,rfl,Nat.lt_succ_self _,hTK.c0,hTK.c1,hTK.c2,hTK.c3⟩⟩
 obtain ⟨v5,w5,hrun5,hown5,hbel5⟩:=it_ap (bl:=[t]) 1 (ownI_below own b3) hB (by simp;omega) (by rw [World.size_alloc];omega)
 have hx1:=h.below b3
 refine ⟨v5,w5,hrun5,(b3.mono (by omega)).trans hbel5,?_,by rw [List.length_append];exact hown5⟩
 have e:∀ o,w5.cell? ⟨R,o,none⟩ = (w.alloc (.cells #[.int .i64 t.k,.string t.nm,.string t.vl,.int .i64 t.p] 67)).cell? ⟨R,o,none⟩:=fun o=>hbel5.cell (p:=⟨R,o,none⟩) (Nat.lt_succ_self R)
 exact ⟨(e 0).trans hx1.c0,(e 1).trans hx1.c1,(e 2).trans hx1.c2,(e 3).trans hx1.c3,(e 4).trans hx1.c4,fun o=>(hbel5.frozen (p:=⟨R,o,none⟩) (Nat.lt_succ_self R)).trans (hx1.fz o)⟩
theorem RX.lay {w:World} {R:Nat} {s:ByteArray} {a:Nat} {v:Value} {er fl:Nat} (h:RX w R s a v er fl) (u:Value):RX (w.setCell ⟨R,2,none⟩ u) R s a u er fl :=
 ⟨(cell_neX _ (by decide)).trans h.c0,(cell_neX _ (by decide)).trans h.c1,World.cell?_setCell_same w ⟨R,2,none⟩ _ h.c2,(cell_neX _ (by decide)).trans h.c3,(cell_neX _ (by decide)).trans h.c4,fun o=>by rw [World.frozen?_setCell];exact h.fz o⟩
theorem rput (R:Nat) (s:ByteArray) (a:Nat) (al:List IT) (k:Int) (nm vl:ByteArray) (p:Int) (w:World) (h:RP w R s a al 0 0) (hl:al.length ≤ 1048576) :
  Calls Tryz.prog 100 #[.pointer (some ⟨R,0,none⟩),.int .i64 k,.string nm,.string vl,.int .i64 p] w fun r w'=>r = .returned (.tuple #[]) ∧ Below R w w' ∧ RP w' R s a (al ++ [⟨k,nm,vl,p⟩]) 0 0:=by
 obtain ⟨v,hX,own⟩:=h.x
 obtain ⟨v3,w3,hrun,hbel,hX3,hown3⟩:=RP.put hX own hl ⟨k,nm,vl,p⟩
 obtain ⟨G,cap,rfl⟩:∃ G cap,v3 = .slice (some ⟨G,0,none⟩) (al.length + 1) cap:=by
  rcases hown3.2 with ⟨_,h0⟩ | ⟨g,c,cur,e,_⟩
  ·simp at h0
  ·exact ⟨g,c,by rw [e];simp⟩
 have HO:=Hid.mk' hown3
 have HB:=Hid.mk' hbel
 clear hown3 own h hbel
 have d2:=hX.c2
 have e2:=hX3.c2
 have f2:=hX3.fz 2
 have HX:=Hid.mk' (hX3.lay (.slice (some ⟨G,0,none⟩) (al.length + 1) cap))
 go_enter Tryz.func100,Tryz.ntmps100
 go_wp2_with (at_builtin;refine (wpList_append_ex (by rfl) _ _ _ _ (by rfl) _ _ (by rfl) (by rfl) (fun a b=>a = .slice (some ⟨G,0,none⟩) (al.length + 1) cap ∧ b = w3) ⟨_,w3,hrun,rfl,rfl⟩ ?_);rintro _ _ ⟨rfl,rfl⟩)
 go_end0
 have hG:R + 1 ≤ G:=by
  rcases HO.out.2 with ⟨h0,_⟩ | ⟨g,c,cur,e,hb,_⟩
  ·cases h0
  ·injection e with e1 _ _
   injection e1 with e2
   injection e2 with e3
   omega
 refine ⟨rfl,(HB.out.mono (Nat.le_succ R)).setCell (Nat.le_refl _) _,⟨_,HX.out,?_⟩⟩
 exact World.ownsRow.kept (row:=some R) HO.out ⟨rfl,rfl,rfl,by simp [World.setCell],fun k _ hk=>Below.heap_setCell _ _ _ _ (fun e=>hk (by rw [e]))⟩ (.inr (fun e=>by have:G = R:=Option.some.inj e;omega))
def RzX (R:Nat) (s:ByteArray) (v:Value) (w:World) (z:Rz) (a:Nat) (e:Ending) (w':World):Prop :=
 But R w w' ∧ match z with
  | .bad er p=>e = .returned (.tuple #[.string E0,.bool false]) ∧ RX w' R s a v er p
  | .val t b=>e = .returned (.tuple #[.string t,.bool true]) ∧ RX w' R s b v 0 0
theorem RX.drewN {w:World} {R:Nat} {s:ByteArray} {a:Nat} {v:Value} {er fl:Nat} (h:RX w R s a v er fl) (n:Nat):RX (w.drewN n) R s a v er fl:=⟨h.c0,h.c1,h.c2,h.c3,h.c4,h.fz⟩
theorem but_drewN {R:Nat} {w wr:World} (h:But R w wr) (n:Nat):But R w (wr.drewN n):=⟨h.os,h.tape,h.output,h.size,h.block⟩
theorem but_below {R:Nat} {w wr w':World} (h:But R w wr) (hb:Below wr.heap.size wr w'):But R w w':=h.trans ⟨hb.os,hb.tape,hb.output,hb.size,fun k hk _=>hb.block k hk⟩
theorem up_end (E:List UInt8) (s:ByteArray):upN E s s.size = s.size:=by
 unfold upN
 rw [List.drop_eq_nil_of_le (by rw [tl_len];exact Nat.le_refl _)]
 rfl
theorem up2_no {s:ByteArray} {b:Nat} {q:UInt8} (h:b < s.size) (hc:ch s b = 60 ∨ ch s b = q.toNat):upN [60,q] s b = b:=by
 obtain ⟨c,r,e,hcc,_⟩:=ch_drop s b h
 have:List.contains [60,q] c = true:=by
  simp only [List.contains_cons,List.contains_nil,Bool.or_false,Bool.or_eq_true,beq_iff_eq]
  rw [← hcc] at hc
  rcases hc with hc | hc
  ·left;exact UInt8.toNat_inj.1 hc
  ·right;exact UInt8.toNat_inj.1 hc
 unfold upN
 rw [e,List.findIdx_cons,this]
 rfl
theorem up2_yes {s:ByteArray} {b:Nat} {q:UInt8} (h:b < s.size) (h1:¬ ch s b = 60) (h2:¬ ch s b = q.toNat):upN [60,q] s b = upN [60,q] s (b + 1):=by
 obtain ⟨c,r,e,hcc,hr⟩:=ch_drop s b h
 have:List.contains [60,q] c = false:=by
  simp only [List.contains_cons,List.contains_nil,Bool.or_false,Bool.or_eq_false_iff,beq_eq_false_iff_ne]
  rw [← hcc] at h1 h2
  exact ⟨fun hh=>h1 (by rw [hh];rfl),fun hh=>h2 (by rw [hh])⟩
 unfold upN
 rw [e,List.findIdx_cons,this,← hr]
 simp
 omega
theorem rvalue_q (R:Nat) (s:ByteArray) (a:Nat) (v:Value) (q:UInt8) (hq:q.toNat = 34 ∨ q.toNat = 39) (w:World) (h:RX w R s a v 0 0) (ha:a < s.size) (hc:ch s a = q.toNat) (hs:s.size ≤ 1048576) :
  Calls Tryz.prog 133 #[.pointer (some ⟨R,0,none⟩)] w (RzX R s v w (valQ s a q) a):=by
 have d0:=h.c0
 have d1:=h.c1
 have k0:((a:Int) == (s.size:Int)) = false:=beq_eq_false_iff_ne.2 (by omega)
 have k00:¬ (a:Int) = (s.size:Int):=by omega
 have ix:∀ w:World,(Instr.index 9 (.string s) (.int .i64 (a:Int))).run Tryz.prog w = .ok (.int .u8 (q.toNat:Int)) w:=fun w=>by rw [← hc];exact idx (w:=w) s a (by omega) .i64
 have hlt0:(a:Int) < (s.size:Int):=by omega
 have kq:((q.toNat:Int) != 34 && (q.toNat:Int) != 39) = false:=by
  rcases hq with h | h <;> rw [h] <;> rfl
 have hq60:¬ q.toNat = 60:=by omega
 have HX:=Hid.mk' h
 have hz:∀ u,upN [60,q] s (a + 1) = u → valQ s a q = (if s.size ≤ u then .bad 41 s.size else if ch s u = q.toNat then match plainZ (s.extract (a + 1) u) (a + 1) with | (none,t)=>.val t (u + 1) | (some (er,p),_)=>.bad er p else .bad 40 u):=by
  rintro u rfl;rfl
 have HZ:=Hid.mk' hz
 clear hz h
 rcases hq with hq | hq
 ·rw [hq] at ix kq hq60 hc
  go_enter Tryz.func133,Tryz.ntmps133
  go_wp2_with fail
  go_quiet (fail)
  go_wp2_with fail
  go_quiet (fail)
  go_wp2_with fail
  go_loopw [6] (fun i wr=>∃ b:Nat,a + 1 ≤ b ∧ b ≤ s.size ∧ i = .int .i64 (b:Int) ∧ Hid (upN [60,q] s (a + 1) = upN [60,q] s b) ∧ Hid (RX wr R s a v 0 0) ∧ Hid (But R w wr)) (fun i _=>s.size - (RowKit.intOf i).toNat)
  case atStart=>exact ⟨a + 1,Nat.le_refl _,by omega,by go_num,rfl,HX.out.drewN _,but_drewN (But.refl R w) _⟩
  case round =>
   obtain ⟨b,hab,hbs,rfl,HN,HR,HB⟩:=hrel
   have e0:=HR.out.c0
   by_cases hlt:b < s.size
   ·have hltI:(b:Int) < (s.size:Int):=by omega
    have ixb:∀ w:World,(Instr.index 9 (.string s) (.int .i64 (b:Int))).run Tryz.prog w = .ok (.int .u8 (ch s b:Int)) w:=fun w=>idx (w:=w) s b hlt .i64
    by_cases h60:ch s b = 60
    ·rw [h60] at ixb
     have cF:=rfault R s a v 40 b wr HR.out
     have HZ2:=Hid.mk' (show valQ s a q = .bad 40 b by rw [HZ.out b (HN.out.trans (up2_no hlt (.inl h60))),if_neg (by omega),if_neg (by rw [h60,hq];decide)])
     clear h60
     go_wp2_with (go_at_call 75;refine cF.mono ?_;rintro e w1 ⟨rfl,hb,hx⟩)
     exact bodyPost_ret (v:=.tuple #[.string ⟨#[]⟩,.bool false]) (by simp [results,Tryz.results133,go_sem]) rfl (by unfold RzX;rw [HZ2.out];exact ⟨HB.out.trans hb,rfl,hx⟩)
    ·by_cases hqb:ch s b = q.toNat
     ·have hu:upN [60,q] s (a + 1) = b:=HN.out.trans (up2_no hlt (.inr hqb))
      have hzz:=HZ.out b hu
      rw [if_neg (by omega),if_pos hqb] at hzz
      rw [hqb,hq] at ixb
      have j1:(a:Int) + 1 ≤ (b:Int):=by omega
      have j2:(b:Int) ≤ (s.size:Int):=by omega
      have hsl:∀ w:World,(Instr.slice 9 (.string s) (some (.int .i64 ((a:Int) + 1))) (some (.int .i64 (b:Int))) none).run Tryz.prog w = .ok (.string (s.extract (a + 1) b)) w:=fun w=>by
       have:=slice_fromto s (a + 1) b (by omega) (by omega) w
       rwa [show ((a + 1:Nat):Int) = (a:Int) + 1 by omega] at this
      have cU:=rUnescape (s.extract (a + 1) b) wr (by have:=ext_size_le s (a + 1) b;omega)
      have hpl:=une_place (s.extract (a + 1) b)
      have hpz:=ext_size_le s (a + 1) b
      unfold plainZ at hzz
      by_cases hz0:(uneN (s.extract (a + 1) b)).2.1 = 0
      ·rw [if_pos hz0] at hzz
       rw [hz0] at cU
       have HZ2:=Hid.mk' hzz
       generalize sOf (uneN (s.extract (a + 1) b)).1 = T at *
       generalize (uneN (s.extract (a + 1) b)).2.2 = P at *
       generalize s.extract (a + 1) b = U at *
       clear hz0 hzz hu h60 hqb
       go_wp2_with (go_at_call 127;refine cU.mono ?_;clear cU;rintro e w2 ⟨rfl,hb2⟩;have HY:=Hid.mk' (HR.out.below hb2);have y1:=HY.out.c1;have y2:=HY.out.fz 1)
       exact bodyPost_ret (v:=.tuple #[.string T,.bool true]) (by simp [results,Tryz.results133,go_sem]) rfl (by unfold RzX;rw [HZ2.out];exact ⟨(but_below HB.out hb2).setX _ _,rfl,HY.out.mv (Mv.set R _ _) (HY.out.ra.put _ (by omega))⟩)
      ·rw [if_neg hz0] at hzz
       have HZ2:=Hid.mk' hzz
       generalize sOf (uneN (s.extract (a + 1) b)).1 = T at *
       generalize (uneN (s.extract (a + 1) b)).2.2 = P at *
       generalize (uneN (s.extract (a + 1) b)).2.1 = E at *
       generalize s.extract (a + 1) b = U at *
       have z1:¬ (E:Int) = 0:=by omega
       have z2:((E:Int) == 0) = false:=beq_eq_false_iff_ne.2 z1
       have cF:=fun (W:World) (h:RX W R s a v 0 0)=>rfault R s a v E (a + 1 + P) W h
       have hcast:((a + 1 + P:Nat):Int) = (a:Int) + 1 + (P:Int):=by omega
       rw [hcast] at cF
       have hP:(P:Int) ≤ 1048576:=by omega
       clear hz0 hzz hu h60 hqb
       go_wp2_with (first
        | (go_at_call 127;refine cU.mono ?_;clear cU;rintro e w2 ⟨rfl,hb2⟩;have HY:=Hid.mk' (HR.out.below hb2))
        | (go_at_call 75;refine (cF _ HY.out).mono ?_;clear cF;rintro e w3 ⟨rfl,hb3,hx3⟩))
       exact bodyPost_ret (v:=.tuple #[.string ⟨#[]⟩,.bool false]) (by simp [results,Tryz.results133,go_sem]) rfl (by unfold RzX;rw [HZ2.out];exact ⟨(but_below HB.out hb2).trans hb3,rfl,hx3⟩)
     ·have HN2:=Hid.mk' (HN.out.trans (up2_yes hlt h60 hqb))
      rw [hq] at hqb
      have k1:((ch s b:Int) == 60) = false:=beq_eq_false_iff_ne.2 (by omega)
      have k2:decide ((ch s b:Int) = 60) = false:=decide_eq_false (by omega)
      have k3:decide ((ch s b:Int) = 34) = false:=decide_eq_false (by omega)
      have k4:((ch s b:Int) == 34) = false:=beq_eq_false_iff_ne.2 (by omega)
      generalize ch s b = d at *
      clear h60 hqb
      go_wp2_with fail
      go_roundw
      case rel=>exact ⟨b + 1,by omega,by omega,by go_num,HN2,HR,HB⟩
      case measure=>simp [RowKit.intOf];omega
   ·obtain rfl:b = s.size:=by omega
    have cF:=rfault R s a v 41 s.size wr HR.out
    have HZ2:=Hid.mk' (show valQ s a q = .bad 41 s.size by rw [HZ.out s.size (HN.out.trans (up_end _ s)),if_pos (Nat.le_refl _)])
    go_wp2_with (go_at_call 75;refine cF.mono ?_;rintro e w1 ⟨rfl,hb,hx⟩)
    exact bodyPost_ret (v:=.tuple #[.string ⟨#[]⟩,.bool false]) (by simp [results,Tryz.results133,go_sem]) rfl (by unfold RzX;rw [HZ2.out];exact ⟨HB.out.trans hb,rfl,hx⟩)
 ·rw [hq] at ix kq hq60 hc
  go_enter Tryz.func133,Tryz.ntmps133
  go_wp2_with fail
  go_quiet (fail)
  go_wp2_with fail
  go_quiet (fail)
  go_wp2_with fail
  go_loopw [6] (fun i wr=>∃ b:Nat,a + 1 ≤ b ∧ b ≤ s.size ∧ i = .int .i64 (b:Int) ∧ Hid (upN [60,q] s (a + 1) = upN [60,q] s b) ∧ Hid (RX wr R s a v 0 0) ∧ Hid (But R w wr)) (fun i _=>s.size - (RowKit.intOf i).toNat)
  case atStart=>exact ⟨a + 1,Nat.le_refl _,by omega,by go_num,rfl,HX.out.drewN _,but_drewN (But.refl R w) _⟩
  case round =>
   obtain ⟨b,hab,hbs,rfl,HN,HR,HB⟩:=hrel
   have e0:=HR.out.c0
   by_cases hlt:b < s.size
   ·have hltI:(b:Int) < (s.size:Int):=by omega
    have ixb:∀ w:World,(Instr.index 9 (.string s) (.int .i64 (b:Int))).run Tryz.prog w = .ok (.int .u8 (ch s b:Int)) w:=fun w=>idx (w:=w) s b hlt .i64
    by_cases h60:ch s b = 60
    ·rw [h60] at ixb
     have cF:=rfault R s a v 40 b wr HR.out
     have HZ2:=Hid.mk' (show valQ s a q = .bad 40 b by rw [HZ.out b (HN.out.trans (up2_no hlt (.inl h60))),if_neg (by omega),if_neg (by rw [h60,hq];decide)])
     clear h60
     go_wp2_with (go_at_call 75;refine cF.mono ?_;rintro e w1 ⟨rfl,hb,hx⟩)
     exact bodyPost_ret (v:=.tuple #[.string ⟨#[]⟩,.bool false]) (by simp [results,Tryz.results133,go_sem]) rfl (by unfold RzX;rw [HZ2.out];exact ⟨HB.out.trans hb,rfl,hx⟩)
    ·by_cases hqb:ch s b = q.toNat
     ·have hu:upN [60,q] s (a + 1) = b:=HN.out.trans (up2_no hlt (.inr hqb))
      have hzz:=HZ.out b hu
      rw [if_neg (by omega),if_pos hqb] at hzz
      rw [hqb,hq] at ixb
      have j1:(a:Int) + 1 ≤ (b:Int):=by omega
      have j2:(b:Int) ≤ (s.size:Int):=by omega
      have hsl:∀ w:World,(Instr.slice 9 (.string s) (some (.int .i64 ((a:Int) + 1))) (some (.int .i64 (b:Int))) none).run Tryz.prog w = .ok (.string (s.extract (a + 1) b)) w:=fun w=>by
       have:=slice_fromto s (a + 1) b (by omega) (by omega) w
       rwa [show ((a + 1:Nat):Int) = (a:Int) + 1 by omega] at this
      have cU:=rUnescape (s.extract (a + 1) b) wr (by have:=ext_size_le s (a + 1) b;omega)
      have hpl:=une_place (s.extract (a + 1) b)
      have hpz:=ext_size_le s (a + 1) b
      unfold plainZ at hzz
      by_cases hz0:(uneN (s.extract (a + 1) b)).2.1 = 0
      ·rw [if_pos hz0] at hzz
       rw [hz0] at cU
       have HZ2:=Hid.mk' hzz
       generalize sOf (uneN (s.extract (a + 1) b)).1 = T at *
       generalize (uneN (s.extract (a + 1) b)).2.2 = P at *
       generalize s.extract (a + 1) b = U at *
       clear hz0 hzz hu h60 hqb
       go_wp2_with (go_at_call 127;refine cU.mono ?_;clear cU;rintro e w2 ⟨rfl,hb2⟩;have HY:=Hid.mk' (HR.out.below hb2);have y1:=HY.out.c1;have y2:=HY.out.fz 1)
       exact bodyPost_ret (v:=.tuple #[.string T,.bool true]) (by simp [results,Tryz.results133,go_sem]) rfl (by unfold RzX;rw [HZ2.out];exact ⟨(but_below HB.out hb2).setX _ _,rfl,HY.out.mv (Mv.set R _ _) (HY.out.ra.put _ (by omega))⟩)
      ·rw [if_neg hz0] at hzz
       have HZ2:=Hid.mk' hzz
       generalize sOf (uneN (s.extract (a + 1) b)).1 = T at *
       generalize (uneN (s.extract (a + 1) b)).2.2 = P at *
       generalize (uneN (s.extract (a + 1) b)).2.1 = E at *
       generalize s.extract (a + 1) b = U at *
       have z1:¬ (E:Int) = 0:=by omega
       have z2:((E:Int) == 0) = false:=beq_eq_false_iff_ne.2 z1
       have cF:=fun (W:World) (h:RX W R s a v 0 0)=>rfault R s a v E (a + 1 + P) W h
       have hcast:((a + 1 + P:Nat):Int) = (a:Int) + 1 + (P:Int):=by omega
       rw [hcast] at cF
       have hP:(P:Int) ≤ 1048576:=by omega
       clear hz0 hzz hu h60 hqb
       go_wp2_with (first
        | (go_at_call 127;refine cU.mono ?_;clear cU;rintro e w2 ⟨rfl,hb2⟩;have HY:=Hid.mk' (HR.out.below hb2))
        | (go_at_call 75;refine (cF _ HY.out).mono ?_;clear cF;rintro e w3 ⟨rfl,hb3,hx3⟩))
       exact bodyPost_ret (v:=.tuple #[.string ⟨#[]⟩,.bool false]) (by simp [results,Tryz.results133,go_sem]) rfl (by unfold RzX;rw [HZ2.out];exact ⟨(but_below HB.out hb2).trans hb3,rfl,hx3⟩)
     ·have HN2:=Hid.mk' (HN.out.trans (up2_yes hlt h60 hqb))
      rw [hq] at hqb
      have k1:((ch s b:Int) == 60) = false:=beq_eq_false_iff_ne.2 (by omega)
      have k2:decide ((ch s b:Int) = 60) = false:=decide_eq_false (by omega)
      have k3:decide ((ch s b:Int) = 39) = false:=decide_eq_false (by omega)
      have k4:((ch s b:Int) == 39) = false:=beq_eq_false_iff_ne.2 (by omega)
      generalize ch s b = d at *
      clear h60 hqb
      go_wp2_with fail
      go_roundw
      case rel=>exact ⟨b + 1,by omega,by omega,by go_num,HN2,HR,HB⟩
      case measure=>simp [RowKit.intOf];omega
   ·obtain rfl:b = s.size:=by omega
    have cF:=rfault R s a v 41 s.size wr HR.out
    have HZ2:=Hid.mk' (show valQ s a q = .bad 41 s.size by rw [HZ.out s.size (HN.out.trans (up_end _ s)),if_pos (Nat.le_refl _)])
    go_wp2_with (go_at_call 75;refine cF.mono ?_;rintro e w1 ⟨rfl,hb,hx⟩)
    exact bodyPost_ret (v:=.tuple #[.string ⟨#[]⟩,.bool false]) (by simp [results,Tryz.results133,go_sem]) rfl (by unfold RzX;rw [HZ2.out];exact ⟨HB.out.trans hb,rfl,hx⟩)
theorem rvalue (R:Nat) (s:ByteArray) (a:Nat) (v:Value) (w:World) (h:RX w R s a v 0 0) (ha:a ≤ s.size) (hs:s.size ≤ 1048576) :
  Calls Tryz.prog 133 #[.pointer (some ⟨R,0,none⟩)] w (RzX R s v w (valueZ s a) a):=by
 have d0:=h.c0
 have d1:=h.c1
 unfold valueZ
 by_cases h0:a = s.size
 ·rw [if_pos (by omega)]
  have cF:=fun n=>rfault R s a v 41 a (w.drewN n) ⟨h.c0,h.c1,h.c2,h.c3,h.c4,h.fz⟩
  have k1:((a:Int) == (s.size:Int)) = true:=beq_iff_eq.2 (by omega)
  have HZ:=Hid.mk' h0
  clear h0
  go_enter Tryz.func133,Tryz.ntmps133
  go_wp2_with fail
  go_quiet (fail)
  go_wp2_with (go_at_call 75;refine (cF _).mono ?_;rintro e w1 ⟨rfl,hb,hx⟩)
  exact bodyPost_ret (v:=.tuple #[.string ⟨#[]⟩,.bool false]) (by simp [results,Tryz.results133,go_sem]) rfl ⟨⟨hb.os,hb.tape,hb.output,hb.size,hb.block⟩,rfl,by rw [← HZ.out];exact hx⟩
 ·rw [if_neg (by omega)]
  by_cases h1:ch s a = 34
  ·rw [if_pos h1]
   exact rvalue_q R s a v 34 (.inl rfl) w h (by omega) h1 hs
  ·rw [if_neg h1]
   by_cases h2:ch s a = 39
   ·rw [if_pos h2]
    exact rvalue_q R s a v 39 (.inr rfl) w h (by omega) h2 hs
   ·rw [if_neg h2]
    have k0:((a:Int) == (s.size:Int)) = false:=beq_eq_false_iff_ne.2 (by omega)
    have k00:¬ (a:Int) = (s.size:Int):=by omega
    have ix:∀ w:World,(Instr.index 9 (.string s) (.int .i64 (a:Int))).run Tryz.prog w = .ok (.int .u8 (ch s a:Int)) w:=fun w=>idx (w:=w) s a (by omega) .i64
    have hlt0:(a:Int) < (s.size:Int):=by omega
    have k1:((ch s a:Int) == 34) = false:=beq_eq_false_iff_ne.2 (by omega)
    have k2:((ch s a:Int) == 39) = false:=beq_eq_false_iff_ne.2 (by omega)
    have k3:decide ((ch s a:Int) = 34) = false:=decide_eq_false (by omega)
    have k4:decide ((ch s a:Int) = 39) = false:=decide_eq_false (by omega)
    have k5:((ch s a:Int) != 34) = true:=bne_iff_ne.2 (by omega)
    have k6:((ch s a:Int) != 39) = true:=bne_iff_ne.2 (by omega)
    have HX:=Hid.mk' h
    generalize ch s a = d at *
    clear h1 h2 h0 h
    go_enter Tryz.func133,Tryz.ntmps133
    go_wp2_with fail
    go_quiet (fail)
    go_wp2_with fail
    go_quiet (fail)
    have HY:Hid (∀ n,RX (w.drewN n) R s a v 0 0):=fun n=>HX.out.drewN n
    go_wp2_with (go_at_call 75;refine (rfault R s a v 40 a _ (HY.out _)).mono ?_;rintro e w1 ⟨rfl,hb,hx⟩)
    exact bodyPost_ret (v:=.tuple #[.string ⟨#[]⟩,.bool false]) (by simp [results,Tryz.results133,go_sem]) rfl ⟨⟨hb.os,hb.tape,hb.output,hb.size,hb.block⟩,rfl,hx⟩
theorem But.belowR {R:Nat} {w w':World} (h:But R w w') (hR:R ≤ w.heap.size):Below R w w':=⟨h.os,h.tape,h.output,h.size,fun k hk=>h.block k (by omega) (by omega)⟩
theorem own_but {w w':World} {R:Nat} {v:Value} {n:Nat} {xs:List Value} (h:w.ownsRow (R + 1) 67 4 v n xs) (hb:But R w w'):w'.ownsRow (R + 1) 67 4 v n xs:=by
 refine World.ownsRow.kept (row:=some R) h ⟨hb.os,hb.tape,hb.output,hb.size,fun k hk hn=>hb.block k hk (fun e=>hn (by rw [e]))⟩ ?_
 rcases h.2 with ⟨rfl,_⟩ | ⟨g,c,cur,rfl,hg,_⟩
 ·exact .inl rfl
 ·exact .inr (fun e=>by have:g = R:=Option.some.inj e;omega)
theorem RP.lt {w:World} {R:Nat} {s:ByteArray} {a:Nat} {al:List IT} {er fl:Nat} (h:RP w R s a al er fl):R < w.heap.size:=by
 obtain ⟨v,hx,_⟩:=h.x
 exact hx.lt
theorem RP.drewN {w:World} {R:Nat} {s:ByteArray} {a:Nat} {al:List IT} {er fl:Nat} (h:RP w R s a al er fl) (n:Nat):RP (w.drewN n) R s a al er fl:=by
 obtain ⟨v,hx,ho⟩:=h.x
 exact ⟨v,hx.drewN n,own_but ho (but_drewN (But.refl R w) n)⟩
theorem upN_row (s:ByteArray) (a:Nat):upN NEb.data.toList s a = rowN s a:=by
 unfold upN rowN lOf
 rw [← List.map_drop,List.findIdx_map]
 congr 2
 funext b
 show List.contains [9,10,13,32,60,62,47,61,34,39,38] b = !nmB b.toNat
 unfold nmB bla
 rw [Bool.eq_iff_iff]
 simp only [List.contains_cons,List.contains_nil,Bool.or_false,Bool.or_eq_true,beq_iff_eq,Bool.not_eq_true',Bool.and_eq_false_iff,decide_eq_false_iff_not,Bool.not_eq_false',decide_eq_true_eq,← UInt8.toNat_inj]
 simp
 omega
theorem nameZ_eq {s:ByteArray} {a:Nat} (ha:a ≤ s.size):nameZ s a = match nameY s a with
  | .inl b=>.val (nameT s a) b
  | .inr (e,p)=>.bad e p:=by
 unfold nameZ nameT nameY
 rw [upN_row]
 by_cases h:a = s.size
 ·rw [if_pos (by omega),if_pos h,h]
 ·rw [if_neg (by omega),if_neg h]
  cases hx:xmlNameB (s.extract a (rowN s a))
  ·simp
  ·simp [okZ]
theorem expZ_eq {s:ByteArray} {a c:Nat} (ha:a ≤ s.size):expZ s a c = match byteZ s a c with
  | .inl _=>none
  | .inr ep=>some ep:=by
 unfold expZ byteZ
 by_cases h:a = s.size
 ·rw [if_pos (by omega),if_pos h,h]
 ·rw [if_neg (by omega),if_neg h]
  by_cases h2:ch s a = c
  ·rw [if_pos h2,if_pos h2]
  ·rw [if_neg h2,if_neg h2]
theorem byteZ_inl {s:ByteArray} {a c b:Nat} (h:byteZ s a c = .inl b):b = a + 1:=by
 unfold byteZ at h
 split at h
 ·cases h
 ·split at h
  ·injection h with h;exact h.symm
  ·cases h
def RzP (R:Nat) (s:ByteArray) (al:List IT) (w:World) (z:Rz) (a:Nat) (e:Ending) (w':World):Prop :=
 Hid (Below R w w') ∧ match z with
  | .bad er p=>e = .returned (.tuple #[.string E0,.bool false]) ∧ Hid (RP w' R s a al er p)
  | .val t b=>e = .returned (.tuple #[.string t,.bool true]) ∧ Hid (RP w' R s b al 0 0)
theorem pname {R:Nat} {s:ByteArray} {a:Nat} {al:List IT} {w:World} (h:RP w R s a al 0 0) (ha:a ≤ s.size) (hs:s.size ≤ 1048576) :
  Calls Tryz.prog 128 #[.pointer (some ⟨R,0,none⟩)] w (RzP R s al w (nameZ s a) a):=by
 obtain ⟨v,hx,ho⟩:=h.x
 refine (rname R s a v w hx ha (by omega)).mono ?_
 rintro e w' ⟨rfl,hb,hz⟩
 unfold RzP
 rw [nameZ_eq ha]
 cases hn:nameY s a with
 | inl b =>
  rw [hn] at hz
  exact ⟨hb.belowR (Nat.le_of_lt hx.lt),rfl,⟨v,hz,own_but ho hb⟩⟩
 | inr ep =>
  obtain ⟨er,p⟩:=ep
  rw [hn] at hz
  have e0:nameT s a = E0:=by unfold nameT;rw [hn];rfl
  rw [e0]
  exact ⟨hb.belowR (Nat.le_of_lt hx.lt),rfl,⟨v,hz,own_but ho hb⟩⟩
theorem pbyte {R:Nat} {s:ByteArray} {a c:Nat} {al:List IT} {w:World} (h:RP w R s a al 0 0) (ha:a ≤ s.size) (hs:s.size ≤ 1048576) :
  Calls Tryz.prog 130 #[.pointer (some ⟨R,0,none⟩),.int .u8 (c:Int)] w fun e w'=>Hid (Below R w w') ∧ match expZ s a c with
   | some (er,p)=>e = .returned (.bool false) ∧ Hid (RP w' R s a al er p)
   | none=>e = .returned (.bool true) ∧ Hid (RP w' R s (a + 1) al 0 0):=by
 obtain ⟨v,hx,ho⟩:=h.x
 refine (rbyteIs R s a v c w hx ha (by omega)).mono ?_
 rintro e w' ⟨rfl,hb,hz⟩
 rw [expZ_eq ha]
 cases hn:byteZ s a c with
 | inl b =>
  rw [hn] at hz
  have:=byteZ_inl hn
  subst this
  exact ⟨hb.belowR (Nat.le_of_lt hx.lt),rfl,⟨v,hz,own_but ho hb⟩⟩
 | inr ep =>
  obtain ⟨er,p⟩:=ep
  rw [hn] at hz
  exact ⟨hb.belowR (Nat.le_of_lt hx.lt),rfl,⟨v,hz,own_but ho hb⟩⟩
theorem pblanks {R:Nat} {s:ByteArray} {a:Nat} {al:List IT} {w:World} (h:RP w R s a al 0 0) (ha:a ≤ s.size) (hs:s.size ≤ 1048576) :
  Calls Tryz.prog 129 #[.pointer (some ⟨R,0,none⟩)] w fun e w'=>e = .returned (.int .i64 ((skN s a - a:Nat):Int)) ∧ Hid (Below R w w') ∧ Hid (RP w' R s (skN s a) al 0 0):=by
 obtain ⟨v,hx,ho⟩:=h.x
 refine (rblanks R s a w hx.ra ha (by omega)).mono ?_
 rintro e w' ⟨rfl,hm,hr⟩
 exact ⟨rfl,hm.but.belowR (Nat.le_of_lt hx.lt),⟨v,hx.mv hm hr,own_but ho hm.but⟩⟩
theorem pvalue {R:Nat} {s:ByteArray} {a:Nat} {al:List IT} {w:World} (h:RP w R s a al 0 0) (ha:a ≤ s.size) (hs:s.size ≤ 1048576) :
  Calls Tryz.prog 133 #[.pointer (some ⟨R,0,none⟩)] w (RzP R s al w (valueZ s a) a):=by
 obtain ⟨v,hx,ho⟩:=h.x
 refine (rvalue R s a v w hx ha hs).mono ?_
 rintro e w' ⟨hb,hz⟩
 unfold RzP
 cases hn:valueZ s a with
 | val t b=>rw [hn] at hz;exact ⟨hb.belowR (Nat.le_of_lt hx.lt),hz.1,⟨v,hz.2,own_but ho hb⟩⟩
 | bad er p=>rw [hn] at hz;exact ⟨hb.belowR (Nat.le_of_lt hx.lt),hz.1,⟨v,hz.2,own_but ho hb⟩⟩
theorem pfault {R:Nat} {s:ByteArray} {a er p:Nat} {al:List IT} {w:World} (h:RP w R s a al 0 0) :
  Calls Tryz.prog 75 #[.pointer (some ⟨R,0,none⟩),.int .i64 (er:Int),.int .i64 (p:Int)] w fun e w'=>e = .returned (.bool false) ∧ Hid (Below R w w') ∧ Hid (RP w' R s a al er p):=by
 obtain ⟨v,hx,ho⟩:=h.x
 refine (rfault R s a v er p w hx).mono ?_
 rintro e w' ⟨rfl,hb,hz⟩
 exact ⟨rfl,hb.belowR (Nat.le_of_lt hx.lt),⟨v,hz,own_but ho hb⟩⟩
theorem RP.place {w:World} {R:Nat} {s:ByteArray} {a b:Nat} {al:List IT} {er fl:Nat} (h:RP w R s a al er fl) (z:Int) (hz:z = (b:Int)):RP (w.setCell ⟨R,1,none⟩ (.int .i64 z)) R s b al er fl:=by
 obtain ⟨v,hx,ho⟩:=h.x
 exact ⟨v,hx.mv (Mv.set R w _) (hx.ra.put z hz),own_but ho (Mv.set R w _).but⟩
theorem below_place (w:World) (R:Nat) (u:Value):Below R w (w.setCell ⟨R,1,none⟩ u):=(Below.refl R w).setCell (Nat.le_refl _) _
def PZ (R:Nat) (s:ByteArray) (al:List IT) (w:World) (z:Sz) (e:Ending) (w':World):Prop :=
 Below R w w' ∧ match z with
  | .bad er p=>e = .returned (.bool false) ∧ ∃ a,RP w' R s a al er p
  | .go _ b (some t)=>e = .returned (.bool true) ∧ RP w' R s b (al ++ [⟨t.k,t.nm,t.vl,t.p⟩]) 0 0
  | .go _ _ none=>False
theorem rclose (R:Nat) (s:ByteArray) (a:Nat) (al:List IT) (w:World) (h:RP w R s a al 0 0) (ha:a + 2 ≤ s.size) (hl:al.length ≤ 1048576) (hs:s.size ≤ 1048576) :
  Calls Tryz.prog 96 #[.pointer (some ⟨R,0,none⟩)] w (PZ R s al w (endZ s a)):=by
 have hR:=h.lt
 have d1:w.cell? ⟨R,1,none⟩ = some (.int .i64 (a:Int)):=by obtain ⟨v,hx,_⟩:=h.x;exact hx.c1
 have f1:w.frozen? ⟨R,1,none⟩ = false:=by obtain ⟨v,hx,_⟩:=h.x;exact hx.fz 1
 have H1:=Hid.mk' (h.place ((a:Int) + 2) (b:=a + 2) (by omega))
 have HB:=Hid.mk' (below_place w R (.int .i64 ((a:Int) + 2)))
 have cN:=pname H1.out ha hs
 unfold PZ endZ
 unfold RzP at cN
 cases hn:nameZ s (a + 2) with
 | bad er p =>
  rw [hn] at cN
  dsimp only at cN ⊢
  clear h hn
  go_enter Tryz.func96,Tryz.ntmps96
  go_wp2_with (go_at_call 128;refine cN.mono ?_;clear cN;rintro e w1 ⟨B1,rfl,H2⟩)
  go_ret
  exact ⟨HB.out.trans B1.out,rfl,_,H2.out⟩
 | val nm b =>
  rw [hn] at cN
  dsimp only at cN ⊢
  have hb:=(nameZ_val hn).2.2
  have hk:=skN_le s b hb
  have cB:=fun (W:World) (h:RP W R s b al 0 0)=>pblanks h hb hs
  have cE:=fun (W:World) (h:RP W R s (skN s b) al 0 0)=>pbyte (c:=62) h hk.2 hs
  have cP:=fun (W:World) (h:RP W R s (skN s b + 1) al 0 0)=>rput R s (skN s b + 1) al 4 nm E0 (a:Int) W h hl
  clear h hn
  cases hx:expZ s (skN s b) 62 with
  | some ep =>
   obtain ⟨er,p⟩:=ep
   rw [hx] at cE
   dsimp only at cE ⊢
   clear hx cP
   generalize skN s b = c at *
   go_enter Tryz.func96,Tryz.ntmps96
   go_wp2_with (first
    | (go_at_call 128;refine cN.mono ?_;clear cN;rintro e w1 ⟨B1,rfl,H2⟩)
    | (go_at_call 129;refine (cB _ H2.out).mono ?_;clear cB;rintro e w2 ⟨rfl,B2,H3⟩)
    | (go_at_call 130;refine (cE _ H3.out).mono ?_;clear cE;rintro e w3 ⟨B3,rfl,H4⟩))
   go_ret
   exact ⟨HB.out.trans (B1.out.trans (B2.out.trans B3.out)),rfl,_,H4.out⟩
  | none =>
   rw [hx] at cE
   dsimp only at cE ⊢
   clear hx
   generalize skN s b = c at *
   go_enter Tryz.func96,Tryz.ntmps96
   go_wp2_with (first
    | (go_at_call 128;refine cN.mono ?_;clear cN;rintro e w1 ⟨B1,rfl,H2⟩)
    | (go_at_call 129;refine (cB _ H2.out).mono ?_;clear cB;rintro e w2 ⟨rfl,B2,H3⟩)
    | (go_at_call 130;refine (cE _ H3.out).mono ?_;clear cE;rintro e w3 ⟨B3,rfl,H4⟩)
    | (go_at_call 100;refine (cP _ H4.out).mono ?_;clear cP;rintro e w4 ⟨rfl,B4,H5⟩))
   go_ret
   exact ⟨HB.out.trans (B1.out.trans (B2.out.trans (B3.out.trans B4))),rfl,H5⟩
theorem RP.below {w w':World} {R:Nat} {s:ByteArray} {a:Nat} {al:List IT} {er fl:Nat} (h:RP w R s a al er fl) (hb:Below w.heap.size w w'):RP w' R s a al er fl:=by
 obtain ⟨v,hx,ho⟩:=h.x
 exact ⟨v,hx.below hb,ownI_below ho hb⟩
theorem RP.plc {w:World} {R:Nat} {s:ByteArray} {a:Nat} {al:List IT} {er fl:Nat} (h:RP w R s a al er fl):plcR w R = a:=by
 obtain ⟨v,hx,_⟩:=h.x
 unfold plcR
 rw [hx.c1]
 simp
theorem RP.c0 {w:World} {R:Nat} {s:ByteArray} {a:Nat} {al:List IT} {er fl:Nat} (h:RP w R s a al er fl):w.cell? ⟨R,0,none⟩ = some (.string s):=by obtain ⟨v,hx,_⟩:=h.x;exact hx.c0
theorem RP.c1 {w:World} {R:Nat} {s:ByteArray} {a:Nat} {al:List IT} {er fl:Nat} (h:RP w R s a al er fl):w.cell? ⟨R,1,none⟩ = some (.int .i64 (a:Int)):=by obtain ⟨v,hx,_⟩:=h.x;exact hx.c1
theorem RP.f1 {w:World} {R:Nat} {s:ByteArray} {a:Nat} {al:List IT} {er fl:Nat} (h:RP w R s a al er fl):w.frozen? ⟨R,1,none⟩ = false:=by obtain ⟨v,hx,_⟩:=h.x;exact hx.fz 1
theorem up1_no {s:ByteArray} {b:Nat} (h:b < s.size) (hc:ch s b = 60):upN [60] s b = b:=by
 obtain ⟨c,r,e,hcc,_⟩:=ch_drop s b h
 have:List.contains [60] c = true:=by
  simp only [List.contains_cons,List.contains_nil,Bool.or_false,beq_iff_eq]
  exact UInt8.toNat_inj.1 (hcc.trans hc)
 unfold upN
 rw [e,List.findIdx_cons,this]
 rfl
theorem up1_yes {s:ByteArray} {b:Nat} (h:b < s.size) (h1:¬ ch s b = 60):upN [60] s b = upN [60] s (b + 1):=by
 obtain ⟨c,r,e,hcc,hr⟩:=ch_drop s b h
 have:List.contains [60] c = false:=by
  simp only [List.contains_cons,List.contains_nil,Bool.or_false,beq_eq_false_iff_ne]
  exact fun hh=>h1 (by rw [← hcc,hh];rfl)
 unfold upN
 rw [e,List.findIdx_cons,this,← hr]
 simp
 omega
theorem RP.drew {w:World} {R:Nat} {s:ByteArray} {a:Nat} {al:List IT} {er fl:Nat} (h:RP w R s a al er fl):RP w.drew R s a al er fl:=h.drewN 1
theorem bel_drewN {B:Nat} {w wr:World} (h:Below B w wr) (n:Nat):Below B w (wr.drewN n):=bdN h n
theorem rtext (R:Nat) (s:ByteArray) (a:Nat) (al:List IT) (w:World) (h:RP w R s a al 0 0) (ha:a ≤ s.size) (hl:al.length ≤ 1048576) (hs:s.size ≤ 1048576) :
  Calls Tryz.prog 95 #[.pointer (some ⟨R,0,none⟩)] w (PZ R s al w (textZ s a)):=by
 have d1:=h.c1
 have HX:=Hid.mk' h
 have hz:∀ u,upN [60] s a = u → textZ s a = (match plainZ (s.extract a u) a with | (some (e,p),_)=>.bad e p | (none,t)=>.go (some 88) u (some ⟨5,E0,t,a⟩)):=by
  rintro u rfl;rfl
 have HZ:=Hid.mk' hz
 clear hz h
 go_enter Tryz.func95,Tryz.ntmps95
 go_wp2_with fail
 go_loopw [] (fun wr=>∃ b:Nat,a ≤ b ∧ b ≤ s.size ∧ Hid (upN [60] s a = upN [60] s b) ∧ Hid (RP wr R s b al 0 0) ∧ Hid (Below R w wr)) (fun wr=>s.size - plcR wr R)
 case atStart=>exact ⟨a,Nat.le_refl _,ha,rfl,HX,Below.refl _ _⟩
 case round =>
  obtain ⟨b,hab,hbs,HN,HR,HB⟩:=hrel
  have c0:=HR.out.c0
  have c1:=HR.out.c1
  have f1:=HR.out.f1
  have hpl:=HR.out.plc
  by_cases hlt:b < s.size
  ·have hltI:(b:Int) < (s.size:Int):=by omega
   have ixb:∀ w:World,(Instr.index 9 (.string s) (.int .i64 (b:Int))).run Tryz.prog w = .ok (.int .u8 (ch s b:Int)) w:=fun w=>idx (w:=w) s b hlt .i64
   by_cases h60:ch s b = 60
   ·rw [h60] at ixb
    have hu:upN [60] s a = b:=HN.out.trans (up1_no hlt h60)
    clear h60
    have hzz:=HZ.out b hu
    have j1:(a:Int) ≤ (b:Int):=by omega
    have j2:(b:Int) ≤ (s.size:Int):=by omega
    have hsl:∀ w:World,(Instr.slice 9 (.string s) (some (.int .i64 (a:Int))) (some (.int .i64 (b:Int))) none).run Tryz.prog w = .ok (.string (s.extract a b)) w:=fun w=>slice_fromto s a b hab hbs w
    have hxs:=ext_size_le s a b
    have cU:=fun (W:World)=>rUnescape (s.extract a b) W (by omega)
    have hplc:=une_place (s.extract a b)
    unfold plainZ at hzz
    by_cases hz0:(uneN (s.extract a b)).2.1 = 0
    ·rw [if_pos hz0] at hzz
     simp only [hz0] at cU
     have HZ2:=Hid.mk' hzz
     generalize sOf (uneN (s.extract a b)).1 = T at *
     generalize (uneN (s.extract a b)).2.2 = P at *
     generalize s.extract a b = U at *
     have cP:=fun (W:World) (h:RP W R s b al 0 0)=>rput R s b al 5 E0 T (a:Int) W h hl
     clear hz0 hzz hu
     go_wp2_with fail
     go_quiet (fail)
     go_wp2_with fail
     go_region_with (go_at_call 127;refine (cU _).mono ?_;rintro e w2 ⟨rfl,hb2⟩)
     all_goals
      have HY:=Hid.mk' (RP.below (HR.out.drewN _).drew hb2)
      go_wp2_with (go_at_call 100;refine (cP _ HY.out).mono ?_;clear cP;rintro e w3 ⟨rfl,hb3,hx3⟩)
      go_ret
      unfold PZ
      rw [HZ2.out]
      exact ⟨HB.out.trans (((bel_drewN (Below.refl _ _) _).drew.trans (hb2.mono (Nat.le_of_lt HR.out.lt))).trans hb3),rfl,hx3⟩
    ·rw [if_neg hz0] at hzz
     have HZ2:=Hid.mk' hzz
     generalize sOf (uneN (s.extract a b)).1 = T at *
     generalize (uneN (s.extract a b)).2.2 = P at *
     generalize (uneN (s.extract a b)).2.1 = E at *
     generalize s.extract a b = U at *
     have z1:¬ (E:Int) = 0:=by omega
     have z2:((E:Int) == 0) = false:=beq_eq_false_iff_ne.2 z1
     have cF:=fun (W:World) (h:RP W R s b al 0 0)=>pfault (er:=E) (p:=a + P) h
     have hcast:((a + P:Nat):Int) = (a:Int) + (P:Int):=by omega
     rw [hcast] at cF
     have hP:(P:Int) ≤ 1048576:=by omega
     clear hz0 hzz hu
     go_wp2_with fail
     go_quiet (fail)
     go_wp2_with fail
     go_region_with (go_at_call 127;refine (cU _).mono ?_;rintro e w2 ⟨rfl,hb2⟩)
     all_goals
      have HY:=Hid.mk' (RP.below (HR.out.drewN _).drew hb2)
      go_wp2_with (go_at_call 75;refine (cF _ HY.out).mono ?_;clear cF;rintro e w3 ⟨rfl,hb3,hx3⟩)
      go_ret
      unfold PZ
      rw [HZ2.out]
      exact ⟨HB.out.trans (((bel_drewN (Below.refl _ _) _).drew.trans (hb2.mono (Nat.le_of_lt HR.out.lt))).trans hb3.out),rfl,_,hx3.out⟩
   ·have HN2:=Hid.mk' (HN.out.trans (up1_yes hlt h60))
    have k1:((ch s b:Int) == 60) = false:=beq_eq_false_iff_ne.2 (by omega)
    have k2:decide ((ch s b:Int) = 60) = false:=decide_eq_false (by omega)
    have k3:((ch s b:Int) != 60) = true:=bne_iff_ne.2 (by omega)
    generalize ch s b = d at *
    clear h60
    go_wp2_with fail
    go_quiet (fail)
    go_wp2_with fail
    have hrp:=(HR.out.drewN nq).place ((b:Int) + 1) (b:=b + 1) (by omega)
    refine ⟨⟨b + 1,by omega,hlt,HN2,hrp,(bel_drewN HB.out nq).setCell (Nat.le_refl _) _⟩,?_⟩
    have hp2:=hrp.plc
    omega
  ·have hu:upN [60] s a = b:=by
    have:b = s.size:=by omega
    rw [HN.out,this];exact up_end _ s
   have k1:decide ((b:Int) < (s.size:Int)) = false:=decide_eq_false (by omega)
   have k2:¬ (b:Int) < (s.size:Int):=by omega
   have hzz:=HZ.out b hu
   have j1:(a:Int) ≤ (b:Int):=by omega
   have j2:(b:Int) ≤ (s.size:Int):=by omega
   have hsl:∀ w:World,(Instr.slice 9 (.string s) (some (.int .i64 (a:Int))) (some (.int .i64 (b:Int))) none).run Tryz.prog w = .ok (.string (s.extract a b)) w:=fun w=>slice_fromto s a b hab hbs w
   have hxs:=ext_size_le s a b
   have cU:=fun (W:World)=>rUnescape (s.extract a b) W (by omega)
   have hplc:=une_place (s.extract a b)
   unfold plainZ at hzz
   by_cases hz0:(uneN (s.extract a b)).2.1 = 0
   ·rw [if_pos hz0] at hzz
    simp only [hz0] at cU
    have HZ2:=Hid.mk' hzz
    generalize sOf (uneN (s.extract a b)).1 = T at *
    generalize (uneN (s.extract a b)).2.2 = P at *
    generalize s.extract a b = U at *
    have cP:=fun (W:World) (h:RP W R s b al 0 0)=>rput R s b al 5 E0 T (a:Int) W h hl
    clear hz0 hzz hu
    go_wp2_with fail
    go_quiet (fail)
    go_wp2_with fail
    go_region_with (go_at_call 127;refine (cU _).mono ?_;rintro e w2 ⟨rfl,hb2⟩)
    all_goals
     have HY:=Hid.mk' (RP.below (HR.out.drewN _).drew hb2)
     go_wp2_with (go_at_call 100;refine (cP _ HY.out).mono ?_;clear cP;rintro e w3 ⟨rfl,hb3,hx3⟩)
     go_ret
     unfold PZ
     rw [HZ2.out]
     exact ⟨HB.out.trans (((bel_drewN (Below.refl _ _) _).drew.trans (hb2.mono (Nat.le_of_lt HR.out.lt))).trans hb3),rfl,hx3⟩
   ·rw [if_neg hz0] at hzz
    have HZ2:=Hid.mk' hzz
    generalize sOf (uneN (s.extract a b)).1 = T at *
    generalize (uneN (s.extract a b)).2.2 = P at *
    generalize (uneN (s.extract a b)).2.1 = E at *
    generalize s.extract a b = U at *
    have z1:¬ (E:Int) = 0:=by omega
    have z2:((E:Int) == 0) = false:=beq_eq_false_iff_ne.2 z1
    have cF:=fun (W:World) (h:RP W R s b al 0 0)=>pfault (er:=E) (p:=a + P) h
    have hcast:((a + P:Nat):Int) = (a:Int) + (P:Int):=by omega
    rw [hcast] at cF
    have hP:(P:Int) ≤ 1048576:=by omega
    clear hz0 hzz hu
    go_wp2_with fail
    go_quiet (fail)
    go_wp2_with fail
    go_region_with (go_at_call 127;refine (cU _).mono ?_;rintro e w2 ⟨rfl,hb2⟩)
    all_goals
     have HY:=Hid.mk' (RP.below (HR.out.drewN _).drew hb2)
     go_wp2_with (go_at_call 75;refine (cF _ HY.out).mono ?_;clear cF;rintro e w3 ⟨rfl,hb3,hx3⟩)
     go_ret
     unfold PZ
     rw [HZ2.out]
     exact ⟨HB.out.trans (((bel_drewN (Below.refl _ _) _).drew.trans (hb2.mono (Nat.le_of_lt HR.out.lt))).trans hb3.out),rfl,_,hx3.out⟩
theorem hh_here {s:ByteArray} {b:Nat} (h:b + 1 < s.size) (h0:ch s b = 45) (h1:ch s (b + 1) = 45):Lib.index (s.data.toList.drop b) [45,45] = 0:=by
 obtain ⟨c,r,e,hc,hr⟩:=ch_drop s b (by omega)
 obtain ⟨d,r2,e2,hd,_⟩:=ch_drop s (b + 1) h
 have ec:c = 45:=UInt8.toNat_inj.1 (hc.trans h0)
 have ed:d = 45:=UInt8.toNat_inj.1 (hd.trans h1)
 rw [e,hr,e2,ec,ed]
 simp [Lib.index]
theorem hh_next {s:ByteArray} {b:Nat} (h:b + 1 < s.size) (h0:¬ (ch s b = 45 ∧ ch s (b + 1) = 45)):Lib.index (s.data.toList.drop b) [45,45] = if Lib.index (s.data.toList.drop (b + 1)) [45,45] == -1 then -1 else Lib.index (s.data.toList.drop (b + 1)) [45,45] + 1:=by
 obtain ⟨c,r,e,hc,hr⟩:=ch_drop s b (by omega)
 obtain ⟨d,r2,e2,hd,_⟩:=ch_drop s (b + 1) h
 rw [e,Lib.index,← hr]
 rw [if_neg]
 rw [Bool.not_eq_true,hr,e2]
 simp only [List.isPrefixOf,Bool.and_true,Bool.and_eq_false_iff,beq_eq_false_iff_ne]
 by_cases hc4:ch s b = 45
 ·right
  intro hh
  exact h0 ⟨hc4,by rw [← hd,← hh];rfl⟩
 ·left
  intro hh
  exact hc4 (by rw [← hc,← hh];rfl)
theorem hh_end {s:ByteArray} {b:Nat} (h:¬ b + 1 < s.size):Lib.index (s.data.toList.drop b) [45,45] = -1:=by
 have hl:(s.data.toList.drop b).length ≤ 1:=by rw [List.length_drop,tl_len];omega
 cases e:s.data.toList.drop b with
 | nil=>rfl
 | cons c l =>
  rw [e] at hl
  cases l with
  | nil=>simp [Lib.index,List.isPrefixOf]
  | cons d l=>simp at hl
def hhZ (s:ByteArray) (a b:Nat) (k:Int):Sz :=
 if k = -1 then .bad 41 s.size
 else if s.size ≤ b + k.toNat + 2 then .bad 41 s.size
 else if ch s (b + k.toNat + 2) = 62 then .go (some 88) (b + k.toNat + 2 + 1) (some ⟨6,E0,s.extract b (b + k.toNat),a⟩)
 else .bad 43 (b + k.toNat)
theorem comment_hh {s:ByteArray} {a:Nat} (h1:expZ s (a + 2) 45 = none) (h2:expZ s (a + 2 + 1) 45 = none):commentZ s a = hhZ s a (a + 4) (Lib.index (s.data.toList.drop (a + 4)) [45,45]):=by
 have hx:=expZ_none h2
 unfold commentZ
 rw [h1]
 dsimp only
 rw [h2]
 dsimp only
 unfold hhZ
 rw [show a + 2 + 1 + 1 = a + 4 by omega]
 have hge:=Lib.index_ge (s.data.toList.drop (a + 4)) [45,45]
 have hle:=Lib.index_le (s.data.toList.drop (a + 4)) [45,45]
 rw [List.length_drop,tl_len] at hle
 by_cases hk:Lib.index (s.data.toList.drop (a + 4)) [45,45] = -1
 ·have hc:comL s (a + 4) = (s.data.toList.drop (a + 4),[],false):=by
   show Lib.cut (s.data.toList.drop (a + 4)) [45,45] = _
   unfold Lib.cut
   rw [if_neg (by omega)]
  rw [hc,if_pos hk,if_neg (by simp)]
 ·have hc:comL s (a + 4) = (List.take (Lib.index (s.data.toList.drop (a + 4)) [45,45]).toNat (s.data.toList.drop (a + 4)),List.drop ((Lib.index (s.data.toList.drop (a + 4)) [45,45]).toNat + 2) (s.data.toList.drop (a + 4)),true):=by
   show Lib.cut (s.data.toList.drop (a + 4)) [45,45] = _
   unfold Lib.cut
   rw [if_pos (by omega)]
   rfl
  rw [hc,if_neg hk,if_pos rfl]
  have hl:(List.take (Lib.index (s.data.toList.drop (a + 4)) [45,45]).toNat (s.data.toList.drop (a + 4))).length = (Lib.index (s.data.toList.drop (a + 4)) [45,45]).toNat:=by
   rw [List.length_take,List.length_drop,tl_len]
   omega
  dsimp only
  rw [hl]
  have e:bs (List.take (Lib.index (s.data.toList.drop (a + 4)) [45,45]).toNat (s.data.toList.drop (a + 4))) = s.extract (a + 4) (a + 4 + (Lib.index (s.data.toList.drop (a + 4)) [45,45]).toNat):=by
   apply ba_ext
   rw [bs_list,list_ext,Nat.add_sub_cancel_left]
  rw [e]
def FromTo (i j:Int) (d:Nat):Prop:=(j = -1 → i = -1) ∧ (j ≠ -1 → i = j + d)
theorem FromTo.next {s:ByteArray} {f b:Nat} (hfb:f ≤ b) (h:FromTo (Lib.index (s.data.toList.drop f) [45,45]) (Lib.index (s.data.toList.drop b) [45,45]) (b - f)) (hb:b + 1 < s.size) (h0:¬ (ch s b = 45 ∧ ch s (b + 1) = 45)):FromTo (Lib.index (s.data.toList.drop f) [45,45]) (Lib.index (s.data.toList.drop (b + 1)) [45,45]) (b + 1 - f):=by
 have e:=hh_next hb h0
 have hge:=Lib.index_ge (s.data.toList.drop (b + 1)) [45,45]
 unfold FromTo at h ⊢
 rw [e] at h
 by_cases hj:Lib.index (s.data.toList.drop (b + 1)) [45,45] = -1
 ·rw [hj] at h ⊢
  exact ⟨fun _=>h.1 rfl,fun hh=>absurd rfl hh⟩
 ·have hb2:(Lib.index (s.data.toList.drop (b + 1)) [45,45] == -1) = false:=beq_eq_false_iff_ne.2 hj
  rw [hb2] at h
  simp only [Bool.false_eq_true,if_false] at h
  refine ⟨fun hh=>absurd hh hj,fun _=>?_⟩
  have:=h.2 (by omega)
  omega
theorem ix_at (s:ByteArray) (c:Nat) (z:Int) (hz:z = (c:Int)) (hc:c < s.size) (d:Nat) (hd:ch s c = d) (w:World):(Instr.index 9 (.string s) (.int .i64 z)).run Tryz.prog w = .ok (.int .u8 (d:Int)) w:=by
 rw [hz,← hd]
 exact idx (w:=w) s c hc .i64
theorem rcomment (R:Nat) (s:ByteArray) (a:Nat) (al:List IT) (w:World) (h:RP w R s a al 0 0) (ha:a + 2 ≤ s.size) (hl:al.length ≤ 1048576) (hs:s.size ≤ 1048576) :
  Calls Tryz.prog 97 #[.pointer (some ⟨R,0,none⟩)] w (PZ R s al w (commentZ s a)):=by
 have d1:=h.c1
 have f1:=h.f1
 have hR:=h.lt
 have H1:=Hid.mk' (h.place ((a:Int) + 2) (b:=a + 2) (by omega))
 have HB:=Hid.mk' (below_place w R (.int .i64 ((a:Int) + 2)))
 have cE:=pbyte (c:=45) H1.out ha hs
 cases hx:expZ s (a + 2) 45 with
 | some ep =>
  obtain ⟨er,p⟩:=ep
  rw [hx] at cE
  dsimp only at cE
  have HZ:=Hid.mk' (show commentZ s a = .bad er p by unfold commentZ;rw [hx])
  clear hx h
  go_enter Tryz.func97,Tryz.ntmps97
  go_wp2_with (go_at_call 130;refine cE.mono ?_;clear cE;rintro e w1 ⟨B1,rfl,H2⟩)
  go_ret
  unfold PZ
  rw [HZ.out]
  exact ⟨HB.out.trans B1.out,rfl,_,H2.out⟩
 | none =>
  rw [hx] at cE
  dsimp only at cE
  have hx2:=expZ_none hx
  have cE2:=fun (W:World) (h:RP W R s (a + 2 + 1) al 0 0)=>pbyte (c:=45) h (by omega) hs
  cases hy:expZ s (a + 2 + 1) 45 with
  | some ep =>
   obtain ⟨er,p⟩:=ep
   rw [hy] at cE2
   dsimp only at cE2
   have HZ:=Hid.mk' (show commentZ s a = .bad er p by unfold commentZ;rw [hx];dsimp only;rw [hy])
   clear hx hy h hx2
   have F1:Hid (1 = 1):=rfl
   go_enter Tryz.func97,Tryz.ntmps97
   go_wp2_with (first
    | (go_at_call 130;clear F1;refine cE.mono ?_;clear cE;rintro e w1 ⟨B1,rfl,H2⟩)
    | (go_at_call 130;refine (cE2 _ H2.out).mono ?_;clear cE2;rintro e w2 ⟨B2,rfl,H3⟩))
   go_ret
   unfold PZ
   rw [HZ.out]
   exact ⟨HB.out.trans (B1.out.trans B2.out),rfl,_,H3.out⟩
  | none =>
   rw [hy] at cE2
   dsimp only at cE2
   have hy2:=expZ_none hy
   have HZ:=Hid.mk' (comment_hh hx hy)
   clear hx hy h hx2
   have F1:Hid (1 = 1):=rfl
   go_enter Tryz.func97,Tryz.ntmps97
   go_wp2_with (first
    | (go_at_call 130;clear F1;refine cE.mono ?_;clear cE;rintro e w1 ⟨B1,rfl,H2⟩)
    | (go_at_call 130;refine (cE2 _ H2.out).mono ?_;clear cE2;rintro e w2 ⟨B2,rfl,H3⟩;replace HB:=Hid.mk' (HB.out.trans (B1.out.trans B2.out));clear B1 B2 H2;replace H3:=Hid.mk' (show RP w2 R s (a + 4) al 0 0 from H3.out);have g1:=H3.out.c1))
   go_loopw [5] (fun i wr=>∃ b:Nat,a + 4 ≤ b ∧ b ≤ s.size ∧ i = .int .i64 (b:Int) ∧ Hid (FromTo (Lib.index (s.data.toList.drop (a + 4)) [45,45]) (Lib.index (s.data.toList.drop b) [45,45]) (b - (a + 4))) ∧ Hid (RP wr R s (a + 4) al 0 0) ∧ Hid (Below R w wr)) (fun i _=>s.size - (RowKit.intOf i).toNat)
   case atStart=>exact ⟨a + 4,Nat.le_refl _,by omega,by go_num,⟨fun h=>h,fun _=>by omega⟩,H3,HB⟩
   case round =>
    obtain ⟨b,hab,hbs,rfl,HN,HR,HBr⟩:=hrel
    have c0:=HR.out.c0
    have c1:=HR.out.c1
    have ff:=HR.out.f1
    have cF:=fun (er p:Nat)=>pfault (er:=er) (p:=p) HR.out
    by_cases hlt:b + 1 < s.size
    ·have hltI:(b:Int) + 1 < (s.size:Int):=by omega
     have ix0:=ix_at s b (b:Int) rfl (by omega) _ rfl
     have ix1:=ix_at s (b + 1) ((b:Int) + 1) (by omega) (by omega) _ rfl
     by_cases h0:ch s b = 45
     ·rw [h0] at ix0
      by_cases h1:ch s (b + 1) = 45
      ·rw [h1] at ix1
       have hk:Lib.index (s.data.toList.drop (a + 4)) [45,45] = ((b - (a + 4):Nat):Int):=by
        have:=hh_here hlt h0 h1
        have h2:=HN.out.2
        rw [this] at h2
        have:=h2 (by decide)
        omega
       have hz:=HZ.out
       rw [hk] at hz
       unfold hhZ at hz
       rw [if_neg (by omega),Int.toNat_natCast,show a + 4 + (b - (a + 4)) = b by omega] at hz
       clear h0 h1 hk
       by_cases he:b + 2 = s.size
       ·rw [if_pos (by omega)] at hz
        have HZ2:=Hid.mk' hz
        have k1:((b:Int) + 2 == (s.size:Int)) = true:=beq_iff_eq.2 (by omega)
        have k2:(b:Int) + 2 = (s.size:Int):=by omega
        have cF2:=cF 41 s.size
        clear he hz cF
        go_wp2_with (go_at_call 75;refine cF2.mono ?_;clear cF2;rintro e w3 ⟨rfl,B3,H4⟩)
        go_ret
        unfold PZ
        rw [HZ2.out]
        exact ⟨HBr.out.trans B3.out,rfl,_,H4.out⟩
       ·rw [if_neg (by omega)] at hz
        have k1:((b:Int) + 2 == (s.size:Int)) = false:=beq_eq_false_iff_ne.2 (by omega)
        have k2:¬ (b:Int) + 2 = (s.size:Int):=by omega
        have ix2:=ix_at s (b + 2) ((b:Int) + 2) (by omega) (by omega) _ rfl
        have hlt2:(b:Int) + 2 < (s.size:Int):=by omega
        by_cases h62:ch s (b + 2) = 62
        ·rw [if_pos h62] at hz
         rw [h62] at ix2
         have HZ2:=Hid.mk' hz
         have hsl:∀ w:World,(Instr.slice 9 (.string s) (some (.int .i64 ((a:Int) + 4))) (some (.int .i64 (b:Int))) none).run Tryz.prog w = .ok (.string (s.extract (a + 4) b)) w:=fun w=>by
          have:=slice_fromto s (a + 4) b hab hbs w
          rwa [show ((a + 4:Nat):Int) = (a:Int) + 4 by omega] at this
         have j1:(a:Int) + 4 ≤ (b:Int):=by omega
         generalize s.extract (a + 4) b = U at *
         have cP:=rput R s (a + 4) al 6 E0 U (a:Int) wr HR.out hl
         clear h62 hz he cF
         go_wp2_with (go_at_call 100;refine cP.mono ?_;clear cP;rintro e w3 ⟨rfl,B3,H4⟩;have g1:=H4.c1;have g2:=H4.f1;replace H4:=Hid.mk' H4)
         go_ret
         unfold PZ
         rw [HZ2.out]
         exact ⟨(HBr.out.trans B3).setCell (Nat.le_refl _) _,rfl,H4.out.place _ (by omega)⟩
        ·rw [if_neg h62] at hz
         have HZ2:=Hid.mk' hz
         have k3:((ch s (b + 2):Int) == 62) = false:=beq_eq_false_iff_ne.2 (by omega)
         have k4:decide ((ch s (b + 2):Int) = 62) = false:=decide_eq_false (by omega)
         have k5:((ch s (b + 2):Int) != 62) = true:=bne_iff_ne.2 (by omega)
         generalize ch s (b + 2) = d at *
         have cF2:=cF 43 b
         clear h62 hz he cF
         go_wp2_with (go_at_call 75;refine cF2.mono ?_;clear cF2;rintro e w3 ⟨rfl,B3,H4⟩)
         go_ret
         unfold PZ
         rw [HZ2.out]
         exact ⟨HBr.out.trans B3.out,rfl,_,H4.out⟩
      ·have HN2:=Hid.mk' (HN.out.next hab hlt (fun hh=>h1 hh.2))
       have k3:((ch s (b + 1):Int) == 45) = false:=beq_eq_false_iff_ne.2 (by omega)
       have k4:decide ((ch s (b + 1):Int) = 45) = false:=decide_eq_false (by omega)
       have k5:((ch s (b + 1):Int) != 45) = true:=bne_iff_ne.2 (by omega)
       generalize ch s (b + 1) = d at *
       clear h0 h1 cF
       go_wp2_with fail
       go_roundw
       case rel=>exact ⟨b + 1,by omega,by omega,by go_num,HN2,HR,HBr⟩
       case measure=>simp [RowKit.intOf];omega
     ·have HN2:=Hid.mk' (HN.out.next hab hlt (fun hh=>h0 hh.1))
      have k3:((ch s b:Int) == 45) = false:=beq_eq_false_iff_ne.2 (by omega)
      have k4:decide ((ch s b:Int) = 45) = false:=decide_eq_false (by omega)
      have k5:((ch s b:Int) != 45) = true:=bne_iff_ne.2 (by omega)
      generalize ch s b = d at *
      clear h0 cF
      go_wp2_with fail
      go_roundw
      case rel=>exact ⟨b + 1,by omega,by omega,by go_num,HN2,HR,HBr⟩
      case measure=>simp [RowKit.intOf];omega
    ·have hk:Lib.index (s.data.toList.drop (a + 4)) [45,45] = -1:=HN.out.1 (hh_end hlt)
     have hz:=HZ.out
     rw [hk] at hz
     unfold hhZ at hz
     rw [if_pos rfl] at hz
     have HZ2:=Hid.mk' hz
     have k1:¬ (b:Int) + 1 < (s.size:Int):=by omega
     have k2:decide ((b:Int) + 1 < (s.size:Int)) = false:=decide_eq_false k1
     have cF2:=cF 41 s.size
     clear hz hk cF
     go_wp2_with (go_at_call 75;refine cF2.mono ?_;clear cF2;rintro e w3 ⟨rfl,B3,H4⟩)
     go_ret
     unfold PZ
     rw [HZ2.out]
     exact ⟨HBr.out.trans B3.out,rfl,_,H4.out⟩
abbrev sCo:Option Nat:=some 88
abbrev sTa:Option Nat:=some 153
def itT (t:Tok):IT:=⟨t.k,t.nm,t.vl,t.p⟩
def OnePost (R:Nat) (s:ByteArray) (al:List IT) (a:Nat) (w:World) (e:Ending) (w':World):Prop :=
 Below R w w' ∧ ((∃ (l:List Tok) (c:Nat),a + l.length ≤ c ∧ a < c ∧ c ≤ s.size ∧ toksZ s sCo a = (l ++ (toksZ s sCo c).1,(toksZ s sCo c).2) ∧ e = .returned (.bool true) ∧ RP w' R s c (al ++ l.map itT) 0 0) ∨
  (∃ (l:List Tok) (er p c:Nat),toksZ s sCo a = (l,some (er,p)) ∧ e = .returned (.bool false) ∧ RP w' R s c (al ++ l.map itT) er p))
theorem ok_co {s:ByteArray} {a:Nat} (hs:s.size ≤ 1048576) (ha:a ≤ s.size):okO s a sCo:=by
 show stOk s _ a
 unfold stOk
 exact Or.inr ⟨hs,by simp [ha]⟩
theorem ok_ta {s:ByteArray} {a:Nat} (hs:s.size ≤ 1048576) (ha:a ≤ s.size):okO s a sTa:=by
 show stOk s _ a
 unfold stOk
 exact Or.inr ⟨hs,by simp [ha]⟩
structure InT (s:ByteArray) (a b:Nat) (l:List Tok):Prop where
 tz:toksZ s sCo a = (l ++ (toksZ s sTa b).1,(toksZ s sTa b).2)
 ln:a + l.length ≤ b
 le:b ≤ s.size
 lt:a < b
theorem con_bad {s:ByteArray} {a g e p:Nat} (h:contentZ s a = .go (some g) a none) (hg:stepZ s g a = .bad e p):pieceZ s sCo a = .bad e p:=by
 show runZ s 2 _ a = _
 simp only [runZ,stepZ_content,h,hg]
theorem con_told {s:ByteArray} {a g b:Nat} {nx:Option Nat} {t:Tok} (h:contentZ s a = .go (some g) a none) (hg:stepZ s g a = .go nx b (some t)):pieceZ s sCo a = .told nx b t:=by
 show runZ s 2 _ a = _
 simp only [runZ,stepZ_content,h,hg]
theorem InT.bad {s:ByteArray} {a b e p:Nat} {l:List Tok} (h:InT s a b l) (hp:inTagZ s b = .bad e p ∨ ∃ g c,inTagZ s b = .go (some g) c none ∧ rank g = 1 ∧ stepZ s g c = .bad e p):toksZ s sCo a = (l,some (e,p)):=by
 have hq:pieceZ s sTa b = .bad e p:=by
  show runZ s 2 _ b = _
  rcases hp with hp | ⟨g,c,hp,_,hg⟩
  ·simp only [runZ,stepZ_inTag,hp]
  ·simp only [runZ,stepZ_inTag,hp,hg]
 rw [h.tz,toksZ_bad hq,List.append_nil]
theorem InT.told {s:ByteArray} {a b c d:Nat} {l:List Tok} {g:Nat} {nx:Option Nat} {t:Tok} (hs:s.size ≤ 1048576) (h:InT s a b l) (hp:inTagZ s b = .go (some g) c none) (hg:stepZ s g c = .go nx d (some t)):toksZ s sCo a = ((l ++ [t]) ++ (toksZ s nx d).1,(toksZ s nx d).2) ∧ b < d ∧ d ≤ s.size:=by
 have hq:pieceZ s sTa b = .told nx d t:=by
  show runZ s 2 _ b = _
  simp only [runZ,stepZ_inTag,hp,hg]
 have hb:=piece_told (ok_ta hs h.le) hq
 rw [h.tz,toksZ_told (ok_ta hs h.le) hq,List.append_assoc]
 exact ⟨rfl,hb.1,hb.2.1⟩
theorem app_one (al:List IT) (l:List Tok) (t:Tok):al ++ l.map itT ++ [⟨t.k,t.nm,t.vl,t.p⟩] = al ++ (l ++ [t]).map itT:=by
 rw [List.map_append,List.append_assoc];rfl
theorem len_one (al:List IT) (l:List Tok):(al ++ l.map itT).length = al.length + l.length:=by rw [List.length_append,List.length_map]
theorem rstart (R:Nat) (s:ByteArray) (a:Nat) (al:List IT) (w:World) (h:RP w R s a al 0 0) (ha:a < s.size) (h60:contentZ s a = .go (some 116) a none) (hl:al.length ≤ a) (hs:s.size ≤ 1048576) :
  Calls Tryz.prog 101 #[.pointer (some ⟨R,0,none⟩)] w (OnePost R s al a w):=by
 have hR:=h.lt
 have d1:=h.c1
 have f1:=h.f1
 have H1:=Hid.mk' (h.place ((a:Int) + 1) (b:=a + 1) (by omega))
 have HB:=Hid.mk' (below_place w R (.int .i64 ((a:Int) + 1)))
 have cN:=pname H1.out (by omega) hs
 unfold RzP at cN
 cases hn:nameZ s (a + 1) with
 | bad er p =>
  rw [hn] at cN
  dsimp only at cN
  have HZ:=Hid.mk' (show toksZ s sCo a = ([],some (er,p)) from toksZ_bad (con_bad h60 (by rw [stepZ_startTag];unfold startZ;rw [hn])))
  clear h hn h60
  go_enter Tryz.func101,Tryz.ntmps101
  go_wp2_with (go_at_call 128;refine cN.mono ?_;clear cN;rintro e w1 ⟨B1,rfl,H2⟩)
  go_ret
  exact ⟨HB.out.trans B1.out,.inr ⟨[],er,p,_,HZ.out,rfl,by rw [List.map_nil,List.append_nil];exact H2.out⟩⟩
 | val nm b0 =>
  rw [hn] at cN
  dsimp only at cN
  have hb0:=nameZ_val hn
  have hq0:pieceZ s sCo a = .told sTa b0 ⟨0,nm,E0,a⟩:=con_told h60 (by rw [stepZ_startTag];unfold startZ;rw [hn])
  have hbd0:=piece_told (ok_co hs (Nat.le_of_lt ha)) hq0
  have HI0:Hid (InT s a b0 [⟨0,nm,E0,a⟩]):=⟨toksZ_told (ok_co hs (Nat.le_of_lt ha)) hq0,by show a + 1 ≤ b0;omega,hbd0.2.1,hbd0.1⟩
  have cP0:=fun (W:World) (h:RP W R s b0 al 0 0)=>rput R s b0 al 0 nm E0 (a:Int) W h (by omega)
  have hb0s:=hbd0.2.1
  clear h hn h60 hq0 hbd0 hb0
  go_enter Tryz.func101,Tryz.ntmps101
  go_wp2_with (first
   | (go_at_call 128;refine cN.mono ?_;clear cN;rintro e w1 ⟨B1,rfl,H2⟩)
   | (go_at_call 100;refine (cP0 _ H2.out).mono ?_;clear cP0;rintro e w2 ⟨rfl,B2,H3⟩;replace HB:=Hid.mk' (HB.out.trans (B1.out.trans B2));replace H3:=Hid.mk' H3;clear B1 B2 H2))
  go_loopw [] (fun wr=>∃ (b:Nat) (l:List Tok),Hid (InT s a b l) ∧ Hid (RP wr R s b (al ++ l.map itT) 0 0) ∧ Hid (Below R w wr)) (fun wr=>s.size - plcR wr R)
  case atStart=>exact ⟨b0,[⟨0,nm,E0,a⟩],HI0,H3,HB⟩
  case round =>
   clear HI0 H3 HB H1 d1 f1 hR hb0s
   obtain ⟨b,l,HI,HR,HB⟩:=hrel
   have hbs:=HI.out.le
   have hbl:=HI.out.ln
   have hlen:(al ++ l.map itT).length ≤ b:=by rw [len_one];omega
   have hpl:=HR.out.plc
   have hk:=skN_le s b hbs
   have cB:=pblanks HR.out hbs hs
   have hin:inTagZ s b = (if s.size ≤ skN s b then .bad 41 s.size else if ch s (skN s b) = 62 then .go (some 170) (skN s b) none else if ch s (skN s b) = 47 then .go (some 171) (skN s b) none else if b < skN s b then .go (some 172) (skN s b) none else .bad 40 (skN s b)):=rfl
   generalize hcc:skN s b = c at *
   generalize hal:al ++ l.map itT = al' at *
   have HA:=Hid.mk' hal
   clear hal hcc
   by_cases h0:c = s.size
   ·rw [if_pos (by omega)] at hin
    have HZ:=Hid.mk' (HI.out.bad (.inl hin))
    have k1:((c:Int) == (s.size:Int)) = true:=beq_iff_eq.2 (by omega)
    have HC:=Hid.mk' h0
    clear h0 hin HI
    go_wp2_with (go_at_call 129;refine cB.mono ?_;clear cB;rintro e w3 ⟨rfl,B3,H4⟩;have g0:=H4.out.c0;have g1:=H4.out.c1)
    go_quiet (fail)
    go_wp2_with (go_at_call 75;refine (pfault (er:=41) (p:=c) (H4.out.drewN _)).mono ?_;rintro e w4 ⟨rfl,B4,H5⟩)
    go_ret
    exact ⟨HB.out.trans ((bel_drewN B3.out _).trans B4.out),.inr ⟨l,41,s.size,_,HZ.out,rfl,by rw [HA.out];rw [HC.out] at H5;exact H5.out⟩⟩
   ·rw [if_neg (by omega)] at hin
    have k0:((c:Int) == (s.size:Int)) = false:=beq_eq_false_iff_ne.2 (by omega)
    have k00:¬ (c:Int) = (s.size:Int):=by omega
    have hlt:(c:Int) < (s.size:Int):=by omega
    have ix:=ix_at s c (c:Int) rfl (by omega) _ rfl
    have hcs:c < s.size:=by omega
    clear h0
    by_cases h62:ch s c = 62
    ·rw [if_pos h62] at hin
     rw [h62] at ix
     have ht:=HI.out.told hs hin (by rw [stepZ_tagEnd];rfl)
     have HT:=Hid.mk' ht
     have cP:=fun (W:World) (h:RP W R s c al' 0 0)=>rput R s c al' 2 E0 E0 (c:Int) W h (by omega)
     clear h62 hin ht
     go_wp2_with (go_at_call 129;refine cB.mono ?_;clear cB;rintro e w3 ⟨rfl,B3,H4⟩;have g0:=H4.out.c0;have g1:=H4.out.c1)
     go_quiet (fail)
     go_wp2_with fail
     go_quiet (fail)
     go_wp2_with (go_at_call 100;refine (cP _ (H4.out.drewN _)).mono ?_;clear cP;rintro e w4 ⟨rfl,B4,H5⟩;have g2:=H5.c1;have g3:=H5.f1;replace H5:=Hid.mk' H5)
     go_ret
     have H6:=H5.out.place ((c:Int) + 1) (b:=c + 1) (by omega)
     refine ⟨(HB.out.trans ((bel_drewN B3.out _).trans B4)).setCell (Nat.le_refl _) _,.inl ⟨l ++ [⟨2,E0,E0,c⟩],c + 1,?_,?_,by omega,HT.out.1,rfl,?_⟩⟩
     ·rw [List.length_append,List.length_singleton];omega
     ·have:=HI.out.lt;omega
     ·rw [← app_one,HA.out];exact H6
    ·rw [if_neg h62] at hin
     have k1:((ch s c:Int) == 62) = false:=beq_eq_false_iff_ne.2 (by omega)
     have k2:decide ((ch s c:Int) = 62) = false:=decide_eq_false (by omega)
     have k1n:¬ (ch s c:Int) = 62:=by omega
     clear h62
     by_cases h47:ch s c = 47
     ·rw [if_pos h47] at hin
      rw [h47] at ix
      clear h47 k1 k2 k1n
      have cE:=fun (W:World) (h:RP W R s (c + 1) al' 0 0)=>pbyte (c:=62) h (by omega) hs
      cases hx:expZ s (c + 1) 62 with
      | some ep =>
       obtain ⟨er,p⟩:=ep
       rw [hx] at cE
       dsimp only at cE
       have HZ:=Hid.mk' (HI.out.bad (.inr ⟨_,_,hin,rfl,(by rw [stepZ_emptyEnd];unfold emptyEndZ;rw [hx])⟩))
       clear hin hx
       go_wp2_with (go_at_call 129;refine cB.mono ?_;clear cB;rintro e w3 ⟨rfl,B3,H4⟩;have g0:=H4.out.c0;have g1:=H4.out.c1;have g3:=H4.out.f1)
       go_quiet (fail)
       go_wp2_with fail
       go_quiet (fail)
       go_wp2_with (go_at_call 130;refine (cE _ ((H4.out.drewN _).place ((c:Int) + 1) (by omega))).mono ?_;clear cE;rintro e w4 ⟨B4,rfl,H5⟩)
       go_ret
       exact ⟨HB.out.trans ((bel_drewN B3.out _).trans ((below_place _ R _).trans B4.out)),.inr ⟨l,er,p,_,HZ.out,rfl,by rw [HA.out];exact H5.out⟩⟩
      | none =>
       rw [hx] at cE
       dsimp only at cE
       have hx2:=expZ_none hx
       have ht:=HI.out.told hs hin (by rw [stepZ_emptyEnd];unfold emptyEndZ;rw [hx])
       have HT:=Hid.mk' ht
       have cP:=fun (W:World) (h:RP W R s (c + 1 + 1) al' 0 0)=>rput R s (c + 1 + 1) al' 3 E0 E0 (c:Int) W h (by omega)
       clear hin hx ht
       go_wp2_with (go_at_call 129;refine cB.mono ?_;clear cB;rintro e w3 ⟨rfl,B3,H4⟩;have g0:=H4.out.c0;have g1:=H4.out.c1;have g3:=H4.out.f1)
       go_quiet (fail)
       go_wp2_with fail
       go_quiet (fail)
       go_wp2_with (first
        | (go_at_call 130;refine (cE _ ((H4.out.drewN _).place ((c:Int) + 1) (by omega))).mono ?_;clear cE;rintro e w4 ⟨B4,rfl,H5⟩)
        | (go_at_call 100;refine (cP _ H5.out).mono ?_;clear cP;rintro e w5 ⟨rfl,B5,H6⟩))
       go_ret
       refine ⟨HB.out.trans ((bel_drewN B3.out _).trans ((below_place _ R _).trans (B4.out.trans B5))),.inl ⟨l ++ [⟨3,E0,E0,c⟩],c + 1 + 1,?_,?_,by omega,HT.out.1,rfl,?_⟩⟩
       ·rw [List.length_append,List.length_singleton];omega
       ·have:=HI.out.lt;omega
       ·rw [← app_one,HA.out];exact H6
     ·rw [if_neg h47] at hin
      have k3:((ch s c:Int) == 47) = false:=beq_eq_false_iff_ne.2 (by omega)
      have k4:decide ((ch s c:Int) = 47) = false:=decide_eq_false (by omega)
      have k3n:¬ (ch s c:Int) = 47:=by omega
      clear h47
      generalize ch s c = d at *
      by_cases hbc:b < c
      ·rw [if_pos hbc] at hin
       have k5:((c - b:Nat):Int) ≠ 0:=by omega
       have k6:(((c - b:Nat):Int) == 0) = false:=beq_eq_false_iff_ne.2 k5
       generalize hmm:((c - b:Nat):Int) = m at *
       clear hmm
       have cN2:=fun (W:World) (h:RP W R s c al' 0 0)=>pname h (by omega) hs
       unfold RzP at cN2
       cases hn2:nameZ s c with
       | bad er p =>
        simp only [hn2] at cN2
        have HZ:=Hid.mk' (HI.out.bad (.inr ⟨_,_,hin,rfl,(by rw [stepZ_attribute];unfold attrZ;rw [hn2])⟩))
        clear hin hn2 hbc
        go_wp2_with (go_at_call 129;refine cB.mono ?_;clear cB;rintro e w3 ⟨rfl,B3,H4⟩;have g0:=H4.out.c0;have g1:=H4.out.c1)
        go_quiet (fail)
        go_wp2_with fail
        go_quiet (fail)
        go_wp2_with (first
         | (go_at_call 128;refine (cN2 _ (H4.out.drewN _)).mono ?_;clear cN2;rintro e w4 ⟨B4,rfl,H5⟩))
        go_ret
        exact ⟨HB.out.trans ((bel_drewN B3.out _).trans B4.out),.inr ⟨l,er,p,_,HZ.out,rfl,by rw [HA.out];exact H5.out⟩⟩
       | val nm2 b1 =>
        simp only [hn2] at cN2
        have hb1:=nameZ_val hn2
        have hk2:=skN_le s b1 hb1.2.2
        have cB2:=fun (W:World) (h:RP W R s b1 al' 0 0)=>pblanks h hb1.2.2 hs
        have hat:attrZ s c = (match expZ s (skN s b1) 61 with | some (e,p)=>.bad e p | none=>match valueZ s (skN s (skN s b1 + 1)) with | .bad e p=>.bad e p | .val vl c'=>.go sTa c' (some ⟨1,nm2,vl,c⟩)):=by unfold attrZ;rw [hn2];rfl
        generalize skN s b1 = c2 at *
        have cE2:=fun (W:World) (h:RP W R s c2 al' 0 0)=>pbyte (c:=61) h hk2.2 hs
        clear hn2 hbc
        cases hx:expZ s c2 61 with
        | some ep =>
         obtain ⟨er,p⟩:=ep
         simp only [hx] at cE2 hat
         have HZ:=Hid.mk' (HI.out.bad (.inr ⟨_,_,hin,rfl,(by rw [stepZ_attribute];exact hat)⟩))
         clear hin hx hat
         go_wp2_with (go_at_call 129;refine cB.mono ?_;clear cB;rintro e w3 ⟨rfl,B3,H4⟩;have g0:=H4.out.c0;have g1:=H4.out.c1)
         go_quiet (fail)
         go_wp2_with fail
         go_quiet (fail)
         go_wp2_with (first
          | (go_at_call 128;refine (cN2 _ (H4.out.drewN _)).mono ?_;clear cN2;rintro e w4 ⟨B4,rfl,H5⟩)
          | (go_at_call 129;refine (cB2 _ H5.out).mono ?_;clear cB2;rintro e w5 ⟨rfl,B5,H6⟩)
          | (go_at_call 130;refine (cE2 _ H6.out).mono ?_;clear cE2;rintro e w6 ⟨B6,rfl,H7⟩))
         go_ret
         exact ⟨HB.out.trans ((bel_drewN B3.out _).trans (B4.out.trans (B5.out.trans B6.out))),.inr ⟨l,er,p,_,HZ.out,rfl,by rw [HA.out];exact H7.out⟩⟩
        | none =>
         have hx2:=expZ_none hx
         simp only [hx] at cE2 hat
         have hk3:=skN_le s (c2 + 1) (by omega)
         have cB3:=fun (W:World) (h:RP W R s (c2 + 1) al' 0 0)=>pblanks h (by omega) hs
         generalize skN s (c2 + 1) = c3 at *
         have cV:=fun (W:World) (h:RP W R s c3 al' 0 0)=>pvalue h hk3.2 hs
         unfold RzP at cV
         clear hx
         cases hva:valueZ s c3 with
         | bad er p =>
          simp only [hva] at cV hat
          have HZ:=Hid.mk' (HI.out.bad (.inr ⟨_,_,hin,rfl,(by rw [stepZ_attribute];exact hat)⟩))
          clear hin hat hva
          go_wp2_with (go_at_call 129;refine cB.mono ?_;clear cB;rintro e w3 ⟨rfl,B3,H4⟩;have g0:=H4.out.c0;have g1:=H4.out.c1)
          go_quiet (fail)
          go_wp2_with fail
          go_quiet (fail)
          go_wp2_with (first
           | (go_at_call 128;refine (cN2 _ (H4.out.drewN _)).mono ?_;clear cN2;rintro e w4 ⟨B4,rfl,H5⟩)
           | (go_at_call 129;refine (cB2 _ H5.out).mono ?_;clear cB2;rintro e w5 ⟨rfl,B5,H6⟩)
           | (go_at_call 130;refine (cE2 _ H6.out).mono ?_;clear cE2;rintro e w6 ⟨B6,rfl,H7⟩)
           | (go_at_call 129;refine (cB3 _ H7.out).mono ?_;clear cB3;rintro e w7 ⟨rfl,B7,H8⟩)
           | (go_at_call 133;refine (cV _ H8.out).mono ?_;clear cV;rintro e w8 ⟨B8,rfl,H9⟩))
          go_ret
          exact ⟨HB.out.trans ((bel_drewN B3.out _).trans (B4.out.trans (B5.out.trans (B6.out.trans (B7.out.trans B8.out))))),.inr ⟨l,er,p,_,HZ.out,rfl,by rw [HA.out];exact H9.out⟩⟩
         | val vl f =>
          simp only [hva] at cV hat
          have ht:=HI.out.told hs hin (by rw [stepZ_attribute];exact hat)
          have HT:=Hid.mk' ht
          have hf1:=ht.2.1
          have hf2:=ht.2.2
          have cP:=fun (W:World) (h:RP W R s f al' 0 0)=>rput R s f al' 1 nm2 vl (c:Int) W h (by omega)
          clear hin hat hva ht
          go_wp2_with (go_at_call 129;refine cB.mono ?_;clear cB;rintro e w3 ⟨rfl,B3,H4⟩;have g0:=H4.out.c0;have g1:=H4.out.c1)
          go_quiet (fail)
          go_wp2_with fail
          go_quiet (fail)
          go_wp2_with (first
           | (go_at_call 128;refine (cN2 _ (H4.out.drewN _)).mono ?_;clear cN2;rintro e w4 ⟨B4,rfl,H5⟩)
           | (go_at_call 129;refine (cB2 _ H5.out).mono ?_;clear cB2;rintro e w5 ⟨rfl,B5,H6⟩)
           | (go_at_call 130;refine (cE2 _ H6.out).mono ?_;clear cE2;rintro e w6 ⟨B6,rfl,H7⟩)
           | (go_at_call 129;refine (cB3 _ H7.out).mono ?_;clear cB3;rintro e w7 ⟨rfl,B7,H8⟩)
           | (go_at_call 133;refine (cV _ H8.out).mono ?_;clear cV;rintro e w8 ⟨B8,rfl,H9⟩)
           | (go_at_call 100;refine (cP _ H9.out).mono ?_;clear cP;rintro e w9 ⟨rfl,B9,H10⟩;replace H10:=Hid.mk' H10))
          have H11:RP w9 R s f (al ++ (l ++ [(⟨1,nm2,vl,c⟩:Tok)]).map itT) 0 0:=by rw [← app_one,HA.out];exact H10.out
          refine ⟨⟨f,l ++ [(⟨1,nm2,vl,c⟩:Tok)],⟨HT.out.1,by rw [List.length_append,List.length_singleton];omega,hf2,by have:=HI.out.lt;omega⟩,Hid.mk' H11,HB.out.trans ((bel_drewN B3.out _).trans (B4.out.trans (B5.out.trans (B6.out.trans (B7.out.trans (B8.out.trans B9))))))⟩,?_⟩
          have hp2:=H11.plc
          omega
      ·rw [if_neg hbc] at hin
       have HZ:=Hid.mk' (HI.out.bad (.inl hin))
       have hm:c - b = 0:=by omega
       rw [hm] at cB
       have cF:=fun (W:World) (h:RP W R s c al' 0 0)=>pfault (er:=40) (p:=c) h
       clear hin hbc hm
       go_wp2_with (go_at_call 129;refine cB.mono ?_;clear cB;rintro e w3 ⟨rfl,B3,H4⟩;have g0:=H4.out.c0;have g1:=H4.out.c1)
       go_quiet (fail)
       go_wp2_with fail
       go_quiet (fail)
       go_wp2_with (go_at_call 75;refine (cF _ (H4.out.drewN _)).mono ?_;clear cF;rintro e w4 ⟨rfl,B4,H5⟩)
       go_ret
       exact ⟨HB.out.trans ((bel_drewN B3.out _).trans B4.out),.inr ⟨l,40,c,_,HZ.out,rfl,by rw [HA.out];exact H5.out⟩⟩
end Go.Proofs.YtchfphakhmifmabGreatDoor
