import Derived.Test.YtchfphakhmifmabGreatDoorXPr2
import Derived.Test.YtchfphakhmifmabGreatDoorXDecl2
namespace Go.Proofs.YtchfphakhmifmabGreatDoor
set_option maxRecDepth 1000000
set_option maxHeartbeats 16000000
open Go.ChangeShapes Go.WideShapes Go.ChangeAt Go.RowKit Go.Shelf Go.Lib
structure Tok where
 k:Nat
 nm:ByteArray
 vl:ByteArray
 p:Nat
def Tok.v (t:Tok):Value:=.agg #[.int .i64 (t.k:Int),.string t.nm,.string t.vl,.int .i64 (t.p:Int)]
structure RC (w:World) (R:Nat) (v:Nat → Value):Prop where
 c:∀ o,o < 10 → w.cell? ⟨R,o,none⟩ = some (v o)
 fz:∀ o,w.frozen? ⟨R,o,none⟩ = false
 lt:R < w.heap.size
def upd (v:Nat → Value) (i:Nat) (u:Value):Nat → Value:=fun j=>if j = i then u else v j
theorem RC.below {w w':World} {R:Nat} {v:Nat → Value} (h:RC w R v) (hb:Below w.heap.size w w'):RC w' R v :=
 ⟨fun o ho=>(hb.cell (p:=⟨R,o,none⟩) h.lt).trans (h.c o ho),fun o=>(hb.frozen (p:=⟨R,o,none⟩) h.lt).trans (h.fz o),Nat.lt_of_lt_of_le h.lt hb.size⟩
theorem RC.ra {w:World} {R:Nat} {v:Nat → Value} {s:ByteArray} {a:Nat} (h:RC w R v) (h0:v 0 = .string s) (h1:v 1 = .int .i64 (a:Int)):RA w R s a :=
 ⟨(h.c 0 (by decide)).trans (by rw [h0]),(h.c 1 (by decide)).trans (by rw [h1]),h.fz,h.lt⟩
theorem RC.mv {w w':World} {R:Nat} {v:Nat → Value} {s:ByteArray} {b:Nat} (h:RC w R v) (m:Mv R w w') (hA:RA w' R s b):RC w' R (upd v 1 (.int .i64 (b:Int))) :=
 ⟨fun o ho=>by
  unfold upd
  by_cases e:o = 1
  ·subst e;rw [if_pos rfl];exact hA.h1
  ·rw [if_neg e];exact (m.cell o e).trans (h.c o ho),hA.fz,hA.lt⟩
theorem But.set (R o:Nat) (w:World) (u:Value):But R w (w.setCell ⟨R,o,none⟩ u):=⟨rfl,rfl,rfl,by simp [World.setCell],fun k _ hk=>Below.heap_setCell _ _ _ _ hk⟩
theorem RC.set {w:World} {R:Nat} {v:Nat → Value} (h:RC w R v) (i:Nat) (hi:i < 10) (u:Value):RC (w.setCell ⟨R,i,none⟩ u) R (upd v i u) :=
 ⟨fun o ho=>by
  unfold upd
  by_cases e:o = i
  ·subst e;rw [if_pos rfl];exact World.cell?_setCell_same w ⟨R,o,none⟩ _ (h.c o ho)
  ·rw [if_neg e];exact (World.cell?_setCell_other w _ _ _ (fun e'=>e (by injection e' with _ e2;exact e2.symm))).trans (h.c o ho),
  fun o=>by rw [World.frozen?_setCell];exact h.fz o,by simpa [World.setCell] using h.lt⟩
def told (v:Nat → Value) (t:Tok):Nat → Value:=upd (upd (upd (upd (upd v 3 (.int .i64 (t.k:Int))) 4 (.string t.nm)) 5 (.string t.vl)) 6 (.int .i64 (t.p:Int))) 7 (.bool true)
theorem tell_any (R:Nat) (t:Tok) (w:World) (v:Nat → Value) (h:RC w R v) :
  Calls Tryz.prog 111 #[.pointer (some ⟨R,0,none⟩),t.v] w fun e w'=>e = .returned (.tuple #[]) ∧ But R w w' ∧ RC w' R (told v t):=by
 have hb:=bel1 w (.cells #[.int .i64 (t.k:Int),.string t.nm,.string t.vl,.int .i64 (t.p:Int)] 67)
 have h0:=h.below hb
 have h3:=h0.set 3 (by decide) (.int .i64 (t.k:Int))
 have h4:=h3.set 4 (by decide) (.string t.nm)
 have h5:=h4.set 5 (by decide) (.string t.vl)
 have h6:=h5.set 6 (by decide) (.int .i64 (t.p:Int))
 have h7:=h6.set 7 (by decide) (.bool true)
 have H7:Hid (RC _ R (told v t)):=h7
 have HB:Hid (But R w _):=(But.of hb).trans ((((But.set R 3 _ (.int .i64 (t.k:Int))).trans (But.set R 4 _ (.string t.nm))).trans ((But.set R 5 _ (.string t.vl)).trans (But.set R 6 _ (.int .i64 (t.p:Int))))).trans (But.set R 7 _ (.bool true)))
 have a3:=h0.c 3 (by decide)
 have b3:=h0.fz 3
 have a4:=h3.c 4 (by decide)
 have b4:=h3.fz 4
 have a5:=h4.c 5 (by decide)
 have b5:=h4.fz 5
 have a6:=h5.c 6 (by decide)
 have b6:=h5.fz 6
 have a7:=h6.c 7 (by decide)
 have b7:=h6.fz 7
 clear h7 h6 h5 h4 h3 h0 hb h
 unfold Tok.v
 go_enter Tryz.func111,Tryz.ntmps111
 go_wp2_with fail
 go_end0
 exact ⟨rfl,HB.out,H7.out⟩
theorem told_upd (v:Nat → Value) (x:Value) (t:Tok):upd (told v t) 1 x = told (upd v 1 x) t:=by
 funext j
 unfold told upd
 repeat' split
 all_goals first | rfl | omega
theorem upd_same (v:Nat → Value) (i:Nat) (x:Value) (h:v i = x):upd v i x = v:=by
 funext j
 unfold upd
 split
 ·rename_i e;rw [e,h]
 ·rfl
def expZ (s:ByteArray) (a c:Nat):Option (Nat × Nat):=if s.size ≤ a then some (41,s.size) else if ch s a = c then none else some (40,a)
def ExpPost (R:Nat) (s:ByteArray) (w:World) (a:Nat) (z:Option (Nat × Nat)) (e:Ending) (w':World):Prop :=
 Mv R w w' ∧ match z with
  | none=>e = .returned (.tuple #[]) ∧ RA w' R s (a + 1)
  | some (er,p)=>e = .panicked [pv er p]
theorem expect_any (R:Nat) (s:ByteArray) (a c:Nat) (w:World) (h:RA w R s a) (ha:a ≤ s.size) (hs:s.size < 4294967281) :
  Calls Tryz.prog 150 #[.pointer (some ⟨R,0,none⟩),.int .u8 (c:Int)] w (ExpPost R s w a (expZ s a c)):=by
 unfold expZ
 by_cases h1:s.size ≤ a
 ·obtain rfl:a = s.size:=by omega
  rw [if_pos h1]
  exact (expect_end R s c w h).mono fun e w' ⟨h1,h2⟩=>⟨h2,h1⟩
 ·rw [if_neg h1]
  by_cases h2:ch s a = c
  ·rw [if_pos h2]
   exact (expect_ok R s a c w h (by omega) (by omega) h2).mono fun e w' ⟨h1,h2,h3⟩=>⟨h2,h1,h3⟩
  ·rw [if_neg h2]
   exact (expect_no R s a c w h (by omega) h2).mono fun e w' ⟨h1,h2⟩=>⟨h2,h1⟩
theorem expZ_none {s:ByteArray} {a c:Nat} (h:expZ s a c = none):a < s.size ∧ ch s a = c:=by
 unfold expZ at h
 split at h
 ·cases h
 ·split at h
  ·rename_i h1 h2;exact ⟨by omega,h2⟩
  ·cases h
theorem nameZ_val {s:ByteArray} {a:Nat} {v:ByteArray} {b:Nat} (h:nameZ s a = .val v b):a < s.size ∧ a ≤ b ∧ b ≤ s.size:=by
 unfold nameZ at h
 split at h
 ·cases h
 ·split at h
  ·rename_i h1 h2
   injection h with h3 h4
   have:=upN_le NEb.data.toList s a (by omega)
   omega
  ·cases h
theorem expect_bad {R:Nat} {s:ByteArray} {a c er p:Nat} (hz:expZ s a c = some (er,p)) (ha:a ≤ s.size) (hs:s.size < 4294967281) (w:World) (h:RA w R s a) :
  Calls Tryz.prog 150 #[.pointer (some ⟨R,0,none⟩),.int .u8 (c:Int)] w fun e w'=>Mv R w w' ∧ e = .panicked [pv er p]:=by
 have:=expect_any R s a c w h ha hs
 rw [hz] at this
 exact this
theorem expect_good {R:Nat} {s:ByteArray} {a c:Nat} (hz:expZ s a c = none) (ha:a ≤ s.size) (hs:s.size < 4294967281) (w:World) (h:RA w R s a) :
  Calls Tryz.prog 150 #[.pointer (some ⟨R,0,none⟩),.int .u8 (c:Int)] w fun e w'=>Mv R w w' ∧ e = .returned (.tuple #[]) ∧ RA w' R s (a + 1):=by
 have:=expect_any R s a c w h ha hs
 rw [hz] at this
 exact this
theorem name_bad {R:Nat} {s:ByteArray} {a er p:Nat} (hz:nameZ s a = .bad er p) (ha:a ≤ s.size) (hs:s.size < 4294967281) (w:World) (h:RA w R s a) :
  Calls Tryz.prog 148 #[.pointer (some ⟨R,0,none⟩)] w fun e w'=>Mv R w w' ∧ e = .panicked [pv er p]:=by
 have:=name_any R s a w h ha hs
 rw [hz] at this
 exact this
theorem name_good {R:Nat} {s:ByteArray} {a b:Nat} {v:ByteArray} (hz:nameZ s a = .val v b) (ha:a ≤ s.size) (hs:s.size < 4294967281) (w:World) (h:RA w R s a) :
  Calls Tryz.prog 148 #[.pointer (some ⟨R,0,none⟩)] w fun e w'=>Mv R w w' ∧ e = .returned (.string v) ∧ RA w' R s b:=by
 have:=name_any R s a w h ha hs
 rw [hz] at this
 exact this
theorem value_bad {R:Nat} {s:ByteArray} {a er p:Nat} (hz:valueZ s a = .bad er p) (ha:a ≤ s.size) (hs:s.size < 4294967281) (w:World) (h:RA w R s a) :
  Calls Tryz.prog 184 #[.pointer (some ⟨R,0,none⟩)] w fun e w'=>Mv R w w' ∧ e = .panicked [pv er p]:=by
 have:=value_any R s a w h ha hs
 rw [hz] at this
 exact this
theorem value_good {R:Nat} {s:ByteArray} {a b:Nat} {v:ByteArray} (hz:valueZ s a = .val v b) (ha:a ≤ s.size) (hs:s.size < 4294967281) (w:World) (h:RA w R s a) :
  Calls Tryz.prog 184 #[.pointer (some ⟨R,0,none⟩)] w fun e w'=>Mv R w w' ∧ e = .returned (.string v) ∧ RA w' R s b:=by
 have:=value_any R s a w h ha hs
 rw [hz] at this
 exact this
theorem plain_bad {v t:ByteArray} {p er q:Nat} (hz:plainZ v p = (some (er,q),t)) (w:World) (hv:v.size < 4294967281) (hp:p < 4294967281) :
  Calls Tryz.prog 147 #[.string v,.int .i64 (p:Int)] w fun e w'=>Below w.heap.size w w' ∧ e = .panicked [pv er q]:=by
 have:=plain_any v p w hv hp
 rw [hz] at this
 exact this
theorem plain_good {v t:ByteArray} {p:Nat} (hz:plainZ v p = (none,t)) (w:World) (hv:v.size < 4294967281) (hp:p < 4294967281) :
  Calls Tryz.prog 147 #[.string v,.int .i64 (p:Int)] w fun e w'=>Below w.heap.size w w' ∧ e = .returned (.string t):=by
 have:=plain_any v p w hv hp
 rw [hz] at this
 exact this
theorem tell_tok (R:Nat) (k:Nat) (nm vl:ByteArray) (p:Nat) (w:World) (v:Nat → Value) (h:RC w R v) :
 Calls Tryz.prog 111 #[.pointer (some ⟨R,0,none⟩),.agg #[.int .i64 (k:Int),.string nm,.string vl,.int .i64 (p:Int)]] w fun e w'=>e = .returned (.tuple #[]) ∧ But R w w' ∧ RC w' R (told v ⟨k,nm,vl,p⟩):=tell_any R ⟨k,nm,vl,p⟩ w v h
inductive Sz where
 | bad (e p:Nat)
 | go (nx:Option Nat) (a:Nat) (t:Option Tok)
def fnV (R:Nat):Option Nat → Value
 | none=>Value.nilFunc
 | some f=>.func (.func f) #[.pointer (some ⟨R,0,none⟩)] #[]
def fin (v:Nat → Value) (a:Nat):Option Tok → Nat → Value
 | none=>upd v 1 (.int .i64 (a:Int))
 | some t=>told (upd v 1 (.int .i64 (a:Int))) t
def StPost (R:Nat) (w:World) (v:Nat → Value) (z:Sz) (e:Ending) (w':World):Prop :=
 match z with
 | .bad er p=>e = .panicked [pv er p] ∧ Mv R w w'
 | .go nx a t=>e = .returned (fnV R nx) ∧ But R w w' ∧ RC w' R (fin v a t)
theorem hmfA:∀ (fn:Fn) (first cap:Array Value) (w:World),(Instr.makeFunc fn first cap).run Tryz.prog w = .ok (.func fn first cap) w:=fun _ _ _ _=>rfl
def endZ (s:ByteArray) (a:Nat):Sz :=
 match nameZ s (a + 2) with
 | .bad e p=>.bad e p
 | .val nm b =>
  match expZ s (skN s b) 62 with
  | some (e,p)=>.bad e p
  | none=>.go (some 88) (skN s b + 1) (some ⟨4,nm,E0,a⟩)
theorem endTag_any (R:Nat) (s:ByteArray) (a:Nat) (v:Nat → Value) (w:World) (h:RC w R v) (v0:v 0 = .string s) (v1:v 1 = .int .i64 (a:Int)) (ha:a + 2 ≤ s.size) (hs:s.size < 4294967281) :
  Calls Tryz.prog 114 #[.pointer (some ⟨R,0,none⟩)] w (StPost R w v (endZ s a)):=by
 have hA:=h.ra v0 v1
 have c1:=hA.h1
 have f1:=hA.fz 1
 have hm:=Mv.set R w (.int .i64 ((a:Int) + 2))
 have hA2:RA (w.setCell ⟨R,1,none⟩ (.int .i64 ((a:Int) + 2))) R s (a + 2):=hA.put _ (by omega)
 unfold endZ
 cases hz:nameZ s (a + 2) with
 | bad er p =>
  have cN:=name_bad (R:=R) hz (by omega) hs
  go_enter Tryz.func114,Tryz.ntmps114
  go_wp2_with (go_at_call 148;refine (cN _ hA2).mono ?_;rintro e w2 ⟨m2,rfl⟩)
  exact ⟨rfl,rfl,hm.trans m2⟩
 | val nm b =>
  have hb:=nameZ_val hz
  have cN:=name_good (R:=R) hz (by omega) hs
  have cS:=fun w h=>skipBlanks_any R s b w h hb.2.2 (by omega)
  have hk:=skN_le s b hb.2.2
  dsimp only
  cases hx:expZ s (skN s b) 62 with
  | some q =>
   obtain ⟨er,p⟩:=q
   have cE:=expect_bad (R:=R) hx hk.2 hs
   generalize skN s b = k at *
   go_enter Tryz.func114,Tryz.ntmps114
   go_wp2_with (first
    | (go_at_call 148;refine (cN _ hA2).mono ?_;clear cN;rintro e w2 ⟨m2,rfl,hA3⟩)
    | (go_at_call 149;refine (cS _ hA3).mono ?_;clear cS;rintro e w3 ⟨rfl,m3,hA4⟩)
    | (go_at_call 150;refine (cE _ hA4).mono ?_;clear cE;rintro e w4 ⟨m4,rfl⟩))
   exact ⟨rfl,rfl,((hm.trans m2).trans m3).trans m4⟩
  | none =>
   have hlt:=expZ_none hx
   have cE:=expect_good (R:=R) hx hk.2 hs
   have cT:=tell_tok R 4 nm E0 a
   generalize skN s b = k at *
   go_enter Tryz.func114,Tryz.ntmps114
   go_wp2_with (first
    | (go_at_call 148;refine (cN _ hA2).mono ?_;clear cN;rintro e w2 ⟨m2,rfl,hA3⟩)
    | (go_at_call 149;refine (cS _ hA3).mono ?_;clear cS;rintro e w3 ⟨rfl,m3,hA4⟩)
    | (go_at_call 150;refine (cE _ hA4).mono ?_;clear cE;rintro e w4 ⟨m4,rfl,hA5⟩)
    | (go_at_call 111;refine (cT _ _ (h.mv (((hm.trans m2).trans m3).trans m4) hA5)).mono ?_;clear cT;rintro e w5 ⟨rfl,hb5,hr5⟩))
   go_ret
   exact ⟨rfl,(((hm.trans m2).trans m3).trans m4).but.trans hb5,hr5⟩
def startZ (s:ByteArray) (a:Nat):Sz :=
 match nameZ s (a + 1) with
 | .bad e p=>.bad e p
 | .val nm b=>.go (some 153) b (some ⟨0,nm,E0,a⟩)
theorem startTag_any (R:Nat) (s:ByteArray) (a:Nat) (v:Nat → Value) (w:World) (h:RC w R v) (v0:v 0 = .string s) (v1:v 1 = .int .i64 (a:Int)) (ha:a + 1 ≤ s.size) (hs:s.size < 4294967281) :
  Calls Tryz.prog 116 #[.pointer (some ⟨R,0,none⟩)] w (StPost R w v (startZ s a)):=by
 have hA:=h.ra v0 v1
 have c1:=hA.h1
 have f1:=hA.fz 1
 have hm:=Mv.set R w (.int .i64 ((a:Int) + 1))
 have hA2:RA (w.setCell ⟨R,1,none⟩ (.int .i64 ((a:Int) + 1))) R s (a + 1):=hA.put _ (by omega)
 unfold startZ
 cases hz:nameZ s (a + 1) with
 | bad er p =>
  have cN:=name_bad (R:=R) hz (by omega) hs
  go_enter Tryz.func116,Tryz.ntmps116
  go_wp2_with (go_at_call 148;refine (cN _ hA2).mono ?_;rintro e w2 ⟨m2,rfl⟩)
  exact ⟨rfl,rfl,hm.trans m2⟩
 | val nm b =>
  have cN:=name_good (R:=R) hz (by omega) hs
  have cT:=tell_tok R 0 nm E0 a
  go_enter Tryz.func116,Tryz.ntmps116
  go_wp2_with (first
   | (go_at_call 148;refine (cN _ hA2).mono ?_;clear cN;rintro e w2 ⟨m2,rfl,hA3⟩)
   | (go_at_call 111;refine (cT _ _ (h.mv (hm.trans m2) hA3)).mono ?_;clear cT;rintro e w5 ⟨rfl,hb5,hr5⟩))
  go_ret
  exact ⟨rfl,(hm.trans m2).but.trans hb5,hr5⟩
def tagEndZ (a:Nat):Sz:=.go (some 88) (a + 1) (some ⟨2,E0,E0,a⟩)
theorem tagEnd_any (R:Nat) (s:ByteArray) (a:Nat) (v:Nat → Value) (w:World) (h:RC w R v) (v0:v 0 = .string s) (v1:v 1 = .int .i64 (a:Int)) (ha:a < 4294967281) :
  Calls Tryz.prog 170 #[.pointer (some ⟨R,0,none⟩)] w (StPost R w v (tagEndZ a)):=by
 have hA:=h.ra v0 v1
 have c1:=hA.h1
 have cT:=tell_tok R 2 E0 E0 a
 go_enter Tryz.func170,Tryz.ntmps170
 go_wp2_with (go_at_call 111;refine (cT _ _ h).mono ?_;clear cT;rintro e w5 ⟨rfl,hb5,hr5⟩;have d1:w5.cell? ⟨R,1,none⟩ = some (.int .i64 (a:Int)):=(hr5.c 1 (by decide)).trans (by rw [← v1];rfl);have e1:=hr5.fz 1)
 go_ret
 refine ⟨rfl,hb5.trans (But.set R 1 _ _),?_⟩
 have:=hr5.set 1 (by decide) (.int .i64 ((a:Int) + 1))
 rw [told_upd] at this
 exact this
def emptyEndZ (s:ByteArray) (a:Nat):Sz :=
 match expZ s (a + 1) 62 with
 | some (e,p)=>.bad e p
 | none=>.go (some 88) (a + 1 + 1) (some ⟨3,E0,E0,a⟩)
theorem emptyEnd_any (R:Nat) (s:ByteArray) (a:Nat) (v:Nat → Value) (w:World) (h:RC w R v) (v0:v 0 = .string s) (v1:v 1 = .int .i64 (a:Int)) (ha:a + 1 ≤ s.size) (hs:s.size < 4294967281) :
  Calls Tryz.prog 171 #[.pointer (some ⟨R,0,none⟩)] w (StPost R w v (emptyEndZ s a)):=by
 have hA:=h.ra v0 v1
 have c1:=hA.h1
 have f1:=hA.fz 1
 have hm:=Mv.set R w (.int .i64 ((a:Int) + 1))
 have hA2:RA (w.setCell ⟨R,1,none⟩ (.int .i64 ((a:Int) + 1))) R s (a + 1):=hA.put _ (by omega)
 unfold emptyEndZ
 cases hx:expZ s (a + 1) 62 with
 | some q =>
  obtain ⟨er,p⟩:=q
  have cE:=expect_bad (R:=R) hx (by omega) hs
  go_enter Tryz.func171,Tryz.ntmps171
  go_wp2_with (go_at_call 150;refine (cE _ hA2).mono ?_;clear cE;rintro e w4 ⟨m4,rfl⟩)
  exact ⟨rfl,rfl,hm.trans m4⟩
 | none =>
  have cE:=expect_good (R:=R) hx (by omega) hs
  have cT:=tell_tok R 3 E0 E0 a
  go_enter Tryz.func171,Tryz.ntmps171
  go_wp2_with (first
   | (go_at_call 150;refine (cE _ hA2).mono ?_;clear cE;rintro e w4 ⟨m4,rfl,hA5⟩)
   | (go_at_call 111;refine (cT _ _ (h.mv (hm.trans m4) hA5)).mono ?_;clear cT;rintro e w5 ⟨rfl,hb5,hr5⟩))
  go_ret
  exact ⟨rfl,(hm.trans m4).but.trans hb5,hr5⟩
def inTagZ (s:ByteArray) (a:Nat):Sz :=
 if s.size ≤ skN s a then .bad 41 s.size
 else if ch s (skN s a) = 62 then .go (some 170) (skN s a) none
 else if ch s (skN s a) = 47 then .go (some 171) (skN s a) none
 else if a < skN s a then .go (some 172) (skN s a) none
 else .bad 40 (skN s a)
theorem inTag_any (R:Nat) (s:ByteArray) (a:Nat) (v:Nat → Value) (w:World) (h:RC w R v) (v0:v 0 = .string s) (v1:v 1 = .int .i64 (a:Int)) (ha:a ≤ s.size) (hs:s.size < 4294967281) :
  Calls Tryz.prog 153 #[.pointer (some ⟨R,0,none⟩)] w (StPost R w v (inTagZ s a)):=by
 have hA:=h.ra v0 v1
 have cS:=fun w h=>skipBlanks_any R s a w h ha (by omega)
 have hk:=skN_le s a ha
 unfold inTagZ
 generalize skN s a = k at *
 by_cases h1:s.size ≤ k
 ·rw [if_pos h1]
  obtain rfl:k = s.size:=by omega
  have cP:=peek_end R s
  go_enter Tryz.func153,Tryz.ntmps153
  go_wp2_with (first
   | (go_at_call 149;refine (cS _ hA).mono ?_;clear cS;rintro e w3 ⟨rfl,m3,hA4⟩)
   | (go_at_call 152;refine (cP _ hA4).mono ?_;clear cP;rintro e w4 ⟨rfl,m4⟩))
  exact ⟨rfl,rfl,m3.trans m4⟩
 rw [if_neg h1]
 have cP:=fun w h=>peek_ok R s k w h (by omega)
 by_cases h2:ch s k = 62
 ·rw [if_pos h2]
  rw [h2] at cP
  go_enter Tryz.func153,Tryz.ntmps153
  go_wp2_with (first
   | (go_at_call 149;refine (cS _ hA).mono ?_;clear cS;rintro e w3 ⟨rfl,m3,hA4⟩)
   | (go_at_call 152;refine (cP _ hA4).mono ?_;clear cP;rintro e w4 ⟨rfl,m4,hA5⟩))
  go_ret
  exact ⟨rfl,(m3.trans m4).but,h.mv (m3.trans m4) hA5⟩
 rw [if_neg h2]
 by_cases h3:ch s k = 47
 ·rw [if_pos h3]
  rw [h3] at cP
  go_enter Tryz.func153,Tryz.ntmps153
  go_wp2_with (first
   | (go_at_call 149;refine (cS _ hA).mono ?_;clear cS;rintro e w3 ⟨rfl,m3,hA4⟩)
   | (go_at_call 152;refine (cP _ hA4).mono ?_;clear cP;rintro e w4 ⟨rfl,m4,hA5⟩))
  go_ret
  exact ⟨rfl,(m3.trans m4).but,h.mv (m3.trans m4) hA5⟩
 rw [if_neg h3]
 generalize ch s k = c at *
 have k1:((c:Int) == 62) = false:=beq_eq_false_iff_ne.2 (by omega)
 have k2:((c:Int) == 47) = false:=beq_eq_false_iff_ne.2 (by omega)
 by_cases h4:a < k
 ·rw [if_pos h4]
  rw [decide_eq_true h4] at cS
  go_enter Tryz.func153,Tryz.ntmps153
  go_wp2_with (first
   | (go_at_call 149;refine (cS _ hA).mono ?_;clear cS;rintro e w3 ⟨rfl,m3,hA4⟩)
   | (go_at_call 152;refine (cP _ hA4).mono ?_;clear cP;rintro e w4 ⟨rfl,m4,hA5⟩))
  go_ret
  exact ⟨rfl,(m3.trans m4).but,h.mv (m3.trans m4) hA5⟩
 ·rw [if_neg h4]
  rw [decide_eq_false h4] at cS
  go_enter Tryz.func153,Tryz.ntmps153
  go_wp2_with (first
   | (go_at_call 149;refine (cS _ hA).mono ?_;clear cS;rintro e w3 ⟨rfl,m3,hA4⟩)
   | (go_at_call 152;refine (cP _ hA4).mono ?_;clear cP;rintro e w4 ⟨rfl,m4,hA5⟩;have c1:=hA5.h1)
   | (go_at_call 85;refine (giveUp_lit 40 40 k rfl _).mono ?_;rintro e w6 ⟨rfl,rfl⟩))
  exact ⟨rfl,rfl,m3.trans m4⟩
def attrZ (s:ByteArray) (a:Nat):Sz :=
 match nameZ s a with
 | .bad e p=>.bad e p
 | .val nm b =>
  match expZ s (skN s b) 61 with
  | some (e,p)=>.bad e p
  | none =>
   match valueZ s (skN s (skN s b + 1)) with
   | .bad e p=>.bad e p
   | .val vl c=>.go (some 153) c (some ⟨1,nm,vl,a⟩)
theorem attribute_any (R:Nat) (s:ByteArray) (a:Nat) (v:Nat → Value) (w:World) (h:RC w R v) (v0:v 0 = .string s) (v1:v 1 = .int .i64 (a:Int)) (ha:a ≤ s.size) (hs:s.size < 4294967281) :
  Calls Tryz.prog 172 #[.pointer (some ⟨R,0,none⟩)] w (StPost R w v (attrZ s a)):=by
 have hA:=h.ra v0 v1
 have c1:=hA.h1
 unfold attrZ
 cases hz:nameZ s a with
 | bad er p =>
  have cN:=name_bad (R:=R) hz (by omega) hs
  go_enter Tryz.func172,Tryz.ntmps172
  go_wp2_with (go_at_call 148;refine (cN _ hA).mono ?_;rintro e w2 ⟨m2,rfl⟩)
  exact ⟨rfl,rfl,m2⟩
 | val nm b =>
  have hb:=nameZ_val hz
  have cN:=name_good (R:=R) hz (by omega) hs
  have cS:=fun w h=>skipBlanks_any R s b w h hb.2.2 (by omega)
  have hk:=skN_le s b hb.2.2
  dsimp only
  cases hx:expZ s (skN s b) 61 with
  | some q =>
   obtain ⟨er,p⟩:=q
   have cE:=expect_bad (R:=R) hx hk.2 hs
   generalize skN s b = k at *
   go_enter Tryz.func172,Tryz.ntmps172
   go_wp2_with (first
    | (go_at_call 148;refine (cN _ hA).mono ?_;clear cN;rintro e w2 ⟨m2,rfl,hA3⟩)
    | (go_at_call 149;refine (cS _ hA3).mono ?_;clear cS;rintro e w3 ⟨rfl,m3,hA4⟩)
    | (go_at_call 150;refine (cE _ hA4).mono ?_;clear cE;rintro e w4 ⟨m4,rfl⟩))
   exact ⟨rfl,rfl,(m2.trans m3).trans m4⟩
  | none =>
   have hlt:=expZ_none hx
   have cE:=expect_good (R:=R) hx hk.2 hs
   have cS2:=fun w h=>skipBlanks_any R s (skN s b + 1) w h (by omega) (by omega)
   have hk2:=skN_le s (skN s b + 1) (by omega)
   dsimp only
   cases hy:valueZ s (skN s (skN s b + 1)) with
   | bad er p =>
    have cV:=value_bad (R:=R) hy hk2.2 hs
    generalize skN s (skN s b + 1) = k2 at *
    generalize skN s b = k at *
    go_enter Tryz.func172,Tryz.ntmps172
    go_wp2_with (first
     | (go_at_call 148;refine (cN _ hA).mono ?_;clear cN;rintro e w2 ⟨m2,rfl,hA3⟩)
     | (go_at_call 150;refine (cE _ hA4).mono ?_;clear cE;rintro e w4 ⟨m4,rfl,hA5⟩;replace cS:=cS2)
     | (go_at_call 184;refine (cV _ hA6).mono ?_;clear cV;rintro e w6 ⟨m6,rfl⟩)
     | (go_at_call 149;refine (cS _ hA3).mono ?_;clear cS;rintro e w3 ⟨rfl,m3,hA4⟩)
     | (go_at_call 149;refine (cS _ hA5).mono ?_;clear cS;rintro e w5 ⟨rfl,m5,hA6⟩))
    exact ⟨rfl,rfl,(((m2.trans m3).trans m4).trans m5).trans m6⟩
   | val vl c =>
    have cV:=value_good (R:=R) hy hk2.2 hs
    have cT:=tell_tok R 1 nm vl a
    generalize skN s (skN s b + 1) = k2 at *
    generalize skN s b = k at *
    go_enter Tryz.func172,Tryz.ntmps172
    go_wp2_with (first
     | (go_at_call 148;refine (cN _ hA).mono ?_;clear cN;rintro e w2 ⟨m2,rfl,hA3⟩)
     | (go_at_call 150;refine (cE _ hA4).mono ?_;clear cE;rintro e w4 ⟨m4,rfl,hA5⟩;replace cS:=cS2)
     | (go_at_call 184;refine (cV _ hA6).mono ?_;clear cV;rintro e w6 ⟨m6,rfl,hA7⟩)
     | (go_at_call 111;refine (cT _ _ (h.mv ((((m2.trans m3).trans m4).trans m5).trans m6) hA7)).mono ?_;clear cT;rintro e w7 ⟨rfl,hb7,hr7⟩)
     | (go_at_call 149;refine (cS _ hA3).mono ?_;clear cS;rintro e w3 ⟨rfl,m3,hA4⟩)
     | (go_at_call 149;refine (cS _ hA5).mono ?_;clear cS;rintro e w5 ⟨rfl,m5,hA6⟩))
    go_ret
    exact ⟨rfl,((((m2.trans m3).trans m4).trans m5).trans m6).but.trans hb7,hr7⟩
def textZ (s:ByteArray) (a:Nat):Sz :=
 match plainZ (s.extract a (upN [60] s a)) a with
 | (some (e,p),_)=>.bad e p
 | (none,t)=>.go (some 88) (upN [60] s a) (some ⟨5,E0,t,a⟩)
theorem text_any (R:Nat) (s:ByteArray) (a:Nat) (v:Nat → Value) (w:World) (h:RC w R v) (v0:v 0 = .string s) (v1:v 1 = .int .i64 (a:Int)) (ha:a ≤ s.size) (hs:s.size < 4294967281) :
  Calls Tryz.prog 113 #[.pointer (some ⟨R,0,none⟩)] w (StPost R w v (textZ s a)):=by
 have hA:=h.ra v0 v1
 have c1:=hA.h1
 have cU:∀ (w:World) (h:RA w R s a),Calls Tryz.prog 146 #[.pointer (some ⟨R,0,none⟩),.string ⟨#[60]⟩] w fun e w'=>e = .returned (.string (s.extract a (upN [60] s a))) ∧ Mv R w w' ∧ RA w' R s (upN [60] s a) :=
  fun w h=>upTo_any R s ⟨#[60]⟩ a w h ha hs (by decide) (by decide) (by decide)
 have hu:=upN_le [60] s a ha
 have hz:=size_ext s a (upN [60] s a) hu.2
 unfold textZ
 generalize s.extract a (upN [60] s a) = r at *
 generalize upN [60] s a = b at *
 rcases hx:plainZ r a with ⟨_ | ⟨er,p⟩,t⟩
 ·have cP:=fun w=>plain_good hx w (by omega) (by omega)
  have cT:=tell_tok R 5 E0 t a
  go_enter Tryz.func113,Tryz.ntmps113
  go_wp2_with (first
   | (go_at_call 146;refine (cU _ hA).mono ?_;clear cU;rintro e w2 ⟨rfl,m2,hA2⟩)
   | (go_at_call 147;refine (cP _).mono ?_;clear cP;rintro e w3 ⟨hb3,rfl⟩)
   | (go_at_call 111;refine (cT _ _ (h.mv (m2.trans (Mv.of hb3 hA2.lt)) (hA2.below hb3))).mono ?_;clear cT;rintro e w5 ⟨rfl,hb5,hr5⟩))
  go_ret
  exact ⟨rfl,(m2.trans (Mv.of hb3 hA2.lt)).but.trans hb5,hr5⟩
 ·have cP:=fun w=>plain_bad hx w (by omega) (by omega)
  go_enter Tryz.func113,Tryz.ntmps113
  go_wp2_with (first
   | (go_at_call 146;refine (cU _ hA).mono ?_;clear cU;rintro e w2 ⟨rfl,m2,hA2⟩)
   | (go_at_call 147;refine (cP _).mono ?_;clear cP;rintro e w3 ⟨hb3,rfl⟩))
  exact ⟨rfl,rfl,m2.trans (Mv.of hb3 hA2.lt)⟩
theorem hasPrefix2 (s:ByteArray) (a c:Nat) (hc:c < 256) (ha:a < s.size) (h60:ch s a = 60):Lib.hasPrefix (s.extract a s.size).data.toList [60,UInt8.ofNat c] = decide (a + 1 < s.size ∧ ch s (a + 1) = c):=by
 rw [list_from]
 have h0:s.data.toList.drop a = s.data.toList.getD a 0 :: s.data.toList.drop (a + 1):=by
  rw [List.drop_eq_getElem_cons (by rw [tl_len];exact ha),List.getD_eq_getElem?_getD,List.getElem?_eq_getElem (by rw [tl_len];exact ha)];rfl
 have e0:s.data.toList.getD a 0 = 60:=UInt8.toNat_inj.1 h60
 rw [h0,e0]
 by_cases h1:a + 1 < s.size
 ·have h2:s.data.toList.drop (a + 1) = s.data.toList.getD (a + 1) 0 :: s.data.toList.drop (a + 2):=by
   rw [List.drop_eq_getElem_cons (by rw [tl_len];exact h1),List.getD_eq_getElem?_getD,List.getElem?_eq_getElem (by rw [tl_len];exact h1)];rfl
  rw [h2]
  unfold Lib.hasPrefix
  simp only [List.isPrefixOf,beq_self_eq_true,Bool.true_and,Bool.and_true]
  by_cases h3:ch s (a + 1) = c
  ·have e3:s.data.toList.getD (a + 1) 0 = UInt8.ofNat c:=UInt8.toNat_inj.1 (by rw [show (s.data.toList.getD (a + 1) 0).toNat = c from h3];simp;omega)
   rw [e3,decide_eq_true ⟨h1,h3⟩]
   simp
  ·rw [decide_eq_false (fun h=>h3 h.2),beq_eq_false_iff_ne]
   intro e
   apply h3
   show (s.data.toList.getD (a + 1) 0).toNat = c
   rw [← e]
   simp
   omega
 ·rw [List.drop_eq_nil_of_le (by rw [tl_len];omega),decide_eq_false (fun h=>h1 h.1)]
  rfl
def contentZ (s:ByteArray) (a:Nat):Sz :=
 if s.size ≤ a then .go none a none
 else if ch s a = 60 then
  if a + 1 < s.size ∧ ch s (a + 1) = 47 then .go (some 114) a none
  else if a + 1 < s.size ∧ ch s (a + 1) = 33 then .go (some 115) a none
  else if a + 1 < s.size ∧ ch s (a + 1) = 63 then .bad 44 a
  else .go (some 116) a none
 else .go (some 113) a none
theorem content_any (R:Nat) (s:ByteArray) (a:Nat) (v:Nat → Value) (w:World) (h:RC w R v) (v0:v 0 = .string s) (v1:v 1 = .int .i64 (a:Int)) (ha:a ≤ s.size) :
  Calls Tryz.prog 88 #[.pointer (some ⟨R,0,none⟩)] w (StPost R w v (contentZ s a)):=by
 have hA:=h.ra v0 v1
 have c0:∀ n,(w.drewN n).cell? ⟨R,0,none⟩ = some (.string s):=fun n=>hA.h0
 have c1:∀ n,(w.drewN n).cell? ⟨R,1,none⟩ = some (.int .i64 (a:Int)):=fun n=>hA.h1
 have sl:∀ w:World,(Instr.slice 9 (.string s) (some (.int .i64 (a:Int))) none none).run Tryz.prog w = .ok (.string (s.extract a s.size)) w:=fun w=>slice_from s a ha w
 have hz:=size_ext s a s.size (Nat.le_refl _)
 have hem:=nempty (s.extract a s.size)
 have FIN:∀ n,But R w (w.drewN n) ∧ RC (w.drewN n) R (fin v a none):=fun n=>⟨((Mv.refl R w).drewN n).but,by show RC _ R (upd v 1 _);rw [upd_same v 1 _ v1];exact ⟨h.c,h.fz,h.lt⟩⟩
 have hmf:=hmfA
 unfold contentZ
 by_cases h1:s.size ≤ a
 ·rw [if_pos h1]
  rw [decide_eq_true (by omega)] at hem
  have hemp:(s.extract a s.size).toList.isEmpty = true:=by cases hl:(s.extract a s.size).toList with | nil=>rfl | cons _ _=>rw [hl] at hem;exact absurd hem (by simp)
  generalize s.extract a s.size = u at *
  have HF:Hid (∀ n,But R w (w.drewN n) ∧ RC (w.drewN n) R (fin v a none)):=FIN
  clear FIN
  go_enter Tryz.func88,Tryz.ntmps88
  go_wp2_with fail
  go_quiet (fail)
  go_wp2_with fail
  go_ret
  exact ⟨rfl,(HF.out _).1,(HF.out _).2⟩
 rw [if_neg h1]
 rw [decide_eq_false (by omega)] at hem
 have hemp:(s.extract a s.size).toList.isEmpty = false:=by cases hl:(s.extract a s.size).toList with | nil=>rw [hl] at hem;exact absurd hem (by decide) | cons _ _=>rfl
 have ix:∀ w:World,(Instr.index 9 (.string (s.extract a s.size)) (.int .i64 0)).run Tryz.prog w = .ok (.int .u8 (ch s a:Int)) w:=fun w=>by
  have:=idx (w:=w) (s.extract a s.size) 0 (by omega) .i64
  rw [ch_ext s a s.size 0 (by omega)] at this
  exact this
 by_cases h2:ch s a = 60
 ·rw [if_pos h2]
  rw [h2] at ix
  have p1:∀ w:World,Calls Tryz.prog 86 #[.string (s.extract a s.size),.string ⟨#[60,47]⟩] w fun e w'=>e = .returned (.bool (decide (a + 1 < s.size ∧ ch s (a + 1) = 47))) ∧ w' = w:=fun w=>by
   rw [← hasPrefix2 s a 47 (by decide) (by omega) h2];exact strHasPrefix (s.extract a s.size) ⟨#[60,47]⟩ w
  have p2:∀ w:World,Calls Tryz.prog 86 #[.string (s.extract a s.size),.string ⟨#[60,33]⟩] w fun e w'=>e = .returned (.bool (decide (a + 1 < s.size ∧ ch s (a + 1) = 33))) ∧ w' = w:=fun w=>by
   rw [← hasPrefix2 s a 33 (by decide) (by omega) h2];exact strHasPrefix (s.extract a s.size) ⟨#[60,33]⟩ w
  have p3:∀ w:World,Calls Tryz.prog 86 #[.string (s.extract a s.size),.string ⟨#[60,63]⟩] w fun e w'=>e = .returned (.bool (decide (a + 1 < s.size ∧ ch s (a + 1) = 63))) ∧ w' = w:=fun w=>by
   rw [← hasPrefix2 s a 63 (by decide) (by omega) h2];exact strHasPrefix (s.extract a s.size) ⟨#[60,63]⟩ w
  generalize s.extract a s.size = u at *
  have HF:Hid (∀ n,But R w (w.drewN n) ∧ RC (w.drewN n) R (fin v a none)):=FIN
  clear FIN h2
  by_cases k1:a + 1 < s.size ∧ ch s (a + 1) = 47
  ·rw [if_pos k1]
   rw [decide_eq_true k1] at p1
   clear p2 p3 k1
   go_enter Tryz.func88,Tryz.ntmps88
   go_wp2_with fail
   go_quiet (fail)
   go_wp2_with (go_at_call 86;refine (p1 _).mono ?_;clear p1;rintro e w2 ⟨rfl,rfl⟩)
   go_ret
   exact ⟨rfl,(HF.out _).1,(HF.out _).2⟩
  rw [if_neg k1]
  rw [decide_eq_false k1] at p1
  by_cases k2:a + 1 < s.size ∧ ch s (a + 1) = 33
  ·rw [if_pos k2]
   rw [decide_eq_true k2] at p2
   clear p3 k1 k2
   go_enter Tryz.func88,Tryz.ntmps88
   go_wp2_with fail
   go_quiet (fail)
   go_wp2_with (first | (go_at_call 86;go_fit (p1 _);clear p1;rintro e w2 ⟨rfl,rfl⟩) | (go_at_call 86;go_fit (p2 _);clear p2;rintro e w2 ⟨rfl,rfl⟩))
   go_ret
   exact ⟨rfl,(HF.out _).1,(HF.out _).2⟩
  rw [if_neg k2]
  rw [decide_eq_false k2] at p2
  by_cases k3:a + 1 < s.size ∧ ch s (a + 1) = 63
  ·rw [if_pos k3]
   rw [decide_eq_true k3] at p3
   clear k1 k2 k3
   go_enter Tryz.func88,Tryz.ntmps88
   go_wp2_with fail
   go_quiet (fail)
   go_wp2_with (first
    | (go_at_call 86;go_fit (p1 _);clear p1;rintro e w2 ⟨rfl,rfl⟩)
    | (go_at_call 86;go_fit (p2 _);clear p2;rintro e w2 ⟨rfl,rfl⟩)
    | (go_at_call 86;go_fit (p3 _);clear p3;rintro e w2 ⟨rfl,rfl⟩;have d1:=c1 nq)
    | (go_at_call 85;refine (giveUp_lit 44 44 a rfl _).mono ?_;rintro e w6 ⟨rfl,rfl⟩))
   exact ⟨rfl,rfl,(Mv.refl R w).drewN _⟩
  rw [if_neg k3]
  rw [decide_eq_false k3] at p3
  clear k1 k2 k3
  go_enter Tryz.func88,Tryz.ntmps88
  go_wp2_with fail
  go_quiet (fail)
  go_wp2_with (first
   | (go_at_call 86;go_fit (p1 _);clear p1;rintro e w2 ⟨rfl,rfl⟩)
   | (go_at_call 86;go_fit (p2 _);clear p2;rintro e w2 ⟨rfl,rfl⟩)
   | (go_at_call 86;go_fit (p3 _);clear p3;rintro e w2 ⟨rfl,rfl⟩))
  go_ret
  exact ⟨rfl,(HF.out _).1,(HF.out _).2⟩
 ·rw [if_neg h2]
  have k1:((ch s a:Int) == 60) = false:=beq_eq_false_iff_ne.2 (by omega)
  have k2:((ch s a:Int) != 60) = true:=bne_iff_ne.2 (by omega)
  generalize s.extract a s.size = u at *
  generalize ch s a = c at *
  have HF:Hid (∀ n,But R w (w.drewN n) ∧ RC (w.drewN n) R (fin v a none)):=FIN
  clear FIN
  go_enter Tryz.func88,Tryz.ntmps88
  go_wp2_with fail
  go_quiet (fail)
  go_wp2_with fail
  go_ret
  exact ⟨rfl,(HF.out _).1,(HF.out _).2⟩
structure Env (w:World):Prop where
 ml:∃ m,w.cell? ⟨3,0,none⟩ = some (.int .i64 m)
 ft:FoldTab w
theorem Env.below {w w':World} {B:Nat} (h:Env w) (hb:Below B w w') (hB:7 ≤ B):Env w' :=
 ⟨let ⟨m,hm⟩:=h.ml;⟨m,(hb.cell (p:=⟨3,0,none⟩) (Nat.lt_of_lt_of_le (by decide) hB)).trans hm⟩,h.ft.below hb (Nat.lt_of_lt_of_le (by decide) hB)⟩
theorem Env.but {w w':World} {R:Nat} (h:Env w) (hb:But R w w') (hR:7 ≤ R) (hl:R < w.heap.size):Env w':=h.below (hb.below (Nat.le_refl R) hl) hR
abbrev bHH:ByteArray:=⟨#[45,45]⟩
def comL (s:ByteArray) (b:Nat):List UInt8 × List UInt8 × Bool:=Lib.cut (s.data.toList.drop b) bHH.data.toList
theorem comL_cases (s:ByteArray) (b:Nat) (hb:b ≤ s.size):(comL s b).2.2 = false ∨ ((comL s b).2.2 = true ∧ b + (comL s b).1.length + 2 ≤ s.size):=by
 unfold comL
 have e:=list_from s b
 rcases Lib.indexB_cases (s.extract b s.size) bHH with hix | ⟨i,hix,hroom⟩
 ·have:=(Lib.cutB_miss (s.extract b s.size) bHH hix)
  rw [e] at this
  exact Or.inl this.2.2
 ·have hix':Lib.index (s.extract b s.size).data.toList bHH.data.toList = (i:Int):=hix
  rw [e] at hix'
  right
  unfold Lib.cut
  rw [hix',if_pos (by omega)]
  refine ⟨rfl,?_⟩
  have hz:=size_ext s b s.size (Nat.le_refl _)
  rw [hz] at hroom
  have h2:bHH.size = 2:=rfl
  rw [h2] at hroom
  rw [List.length_take,drop_len,Int.toNat_natCast]
  omega
def commentZ (s:ByteArray) (a:Nat):Sz :=
 match expZ s (a + 2) 45 with
 | some (e,p)=>.bad e p
 | none =>
  match expZ s (a + 2 + 1) 45 with
  | some (e,p)=>.bad e p
  | none =>
   if (comL s (a + 2 + 1 + 1)).2.2 = true then
    if s.size ≤ a + 2 + 1 + 1 + (comL s (a + 2 + 1 + 1)).1.length + 2 then .bad 41 s.size
    else if ch s (a + 2 + 1 + 1 + (comL s (a + 2 + 1 + 1)).1.length + 2) = 62 then .go (some 88) (a + 2 + 1 + 1 + (comL s (a + 2 + 1 + 1)).1.length + 2 + 1) (some ⟨6,E0,bs (comL s (a + 2 + 1 + 1)).1,a⟩)
    else .bad 43 (a + 2 + 1 + 1 + (comL s (a + 2 + 1 + 1)).1.length)
   else .bad 41 s.size
theorem comment_any (R:Nat) (s:ByteArray) (a:Nat) (v:Nat → Value) (w:World) (h:RC w R v) (v0:v 0 = .string s) (v1:v 1 = .int .i64 (a:Int)) (ha:a + 2 ≤ s.size) (hs:s.size < 4294967281) (hE:Env w) (hR:7 ≤ R) :
  Calls Tryz.prog 115 #[.pointer (some ⟨R,0,none⟩)] w (StPost R w v (commentZ s a)):=by
 have hA:=h.ra v0 v1
 have c1:=hA.h1
 have f1:=hA.fz 1
 have hm:=Mv.set R w (.int .i64 ((a:Int) + 2))
 have hA2:RA (w.setCell ⟨R,1,none⟩ (.int .i64 ((a:Int) + 2))) R s (a + 2):=hA.put _ (by omega)
 unfold commentZ
 cases hx:expZ s (a + 2) 45 with
 | some q =>
  obtain ⟨er,p⟩:=q
  have cE:=expect_bad (R:=R) hx (by omega) hs
  go_enter Tryz.func115,Tryz.ntmps115
  go_wp2_with (go_at_call 150;refine (cE _ hA2).mono ?_;clear cE;rintro e w4 ⟨m4,rfl⟩)
  exact ⟨rfl,rfl,hm.trans m4⟩
 | none =>
  have l1:=expZ_none hx
  have cE1:=expect_good (R:=R) hx (by omega) hs
  dsimp only
  cases hy:expZ s (a + 2 + 1) 45 with
  | some q =>
   obtain ⟨er,p⟩:=q
   have cE2:=expect_bad (R:=R) hy (by omega) hs
   go_enter Tryz.func115,Tryz.ntmps115
   go_wp2_with (first
    | (go_at_call 150;refine (cE1 _ hA2).mono ?_;clear cE1;rintro e w4 ⟨m4,rfl,hA4⟩)
    | (go_at_call 150;refine (cE2 _ hA4).mono ?_;clear cE2;rintro e w5 ⟨m5,rfl⟩))
   exact ⟨rfl,rfl,(hm.trans m4).trans m5⟩
  | none =>
   have l2:=expZ_none hy
   have cE2:=expect_good (R:=R) hy (by omega) hs
   have sl:∀ w:World,(Instr.slice 9 (.string s) (some (.int .i64 ((a + 2 + 1 + 1:Nat):Int))) none none).run Tryz.prog w = .ok (.string (s.extract (a + 2 + 1 + 1) s.size)) w:=fun w=>slice_from s (a + 2 + 1 + 1) (by omega) w
   have hz:=size_ext s (a + 2 + 1 + 1) s.size (Nat.le_refl _)
   have cC:∀ (m:Int) (w:World) (n:Nat),w.cell? ⟨3,0,none⟩ = some (.int .i64 m) → Calls Tryz.prog 151 #[.string (s.extract (a + 2 + 1 + 1) s.size),.string bHH] (w.drewN n) fun e w'=>e = .returned (.tuple #[.string (bs (comL s (a + 2 + 1 + 1)).1),.string (bs (comL s (a + 2 + 1 + 1)).2.1),.bool (comL s (a + 2 + 1 + 1)).2.2]) ∧ ∃ m,w' = w.drewN m:=fun m w n hm=>by
    have:=strCut (s.extract (a + 2 + 1 + 1) s.size) bHH m (w.drewN n) (by omega) hm
    rw [list_from] at this
    exact this.mono fun _ _ ⟨h1,k,h2⟩=>⟨h1,n + k,by rw [h2];simp [World.drewN,Nat.add_assoc]⟩
   have hcases:=comL_cases s (a + 2 + 1 + 1) (by omega)
   dsimp only
   have hbz:=bs_size (comL s (a + 2 + 1 + 1)).1
   generalize comL s (a + 2 + 1 + 1) = C at *
   obtain ⟨L,L2,b⟩:=C
   dsimp only at *
   generalize bs L = B at *
   generalize bs L2 = B2 at *
   generalize s.extract (a + 2 + 1 + 1) s.size = u at *
   generalize hd:a + 2 + 1 + 1 = d at *
   rcases hcases with rfl | ⟨rfl,hroom⟩
   ·rw [if_neg (by decide)]
    go_enter Tryz.func115,Tryz.ntmps115
    go_wp2_with (first
     | (go_at_call 150;refine (cE1 _ hA2).mono ?_;clear cE1;rintro e w4 ⟨m4,rfl,hA4⟩)
     | (go_at_call 150;refine (cE2 _ hA4).mono ?_;clear cE2;rintro e w5 ⟨m5,rfl,hA5⟩))
    have M5:=(hm.trans m4).trans m5
    obtain ⟨m,hml⟩:=(hE.but M5.but hR h.lt).ml
    have e0:∀ n,(w5.drewN n).cell? ⟨R,0,none⟩ = some (.string s):=fun n=>hA5.h0
    have e1:∀ n,(w5.drewN n).cell? ⟨R,1,none⟩ = some (.int .i64 (d:Int)):=fun n=>hA5.h1
    go_quiet ((go_at_call 151;refine cC m _ _ hml))
    have g0:=e0 nq
    go_wp2_with (go_at_call 85;refine (giveUp_lit 41 41 s.size rfl _).mono ?_;rintro e w6 ⟨rfl,rfl⟩)
    exact ⟨rfl,rfl,M5.drewN _⟩
   ·rw [if_pos rfl]
    by_cases k1:s.size ≤ d + L.length + 2
    ·rw [if_pos k1]
     have cP:∀ w,RA w R s (d + L.length + 2) → _:=fun w h=>peek_end R s w (by rw [show d + L.length + 2 = s.size by omega] at h;exact h)
     go_enter Tryz.func115,Tryz.ntmps115
     go_wp2_with (first
      | (go_at_call 150;refine (cE1 _ hA2).mono ?_;clear cE1;rintro e w4 ⟨m4,rfl,hA4⟩)
      | (go_at_call 150;refine (cE2 _ hA4).mono ?_;clear cE2;rintro e w5 ⟨m5,rfl,hA5⟩))
     have M5:=(hm.trans m4).trans m5
     obtain ⟨m,hml⟩:=(hE.but M5.but hR h.lt).ml
     have e0:∀ n,(w5.drewN n).cell? ⟨R,0,none⟩ = some (.string s):=fun n=>hA5.h0
     have e1:∀ n,(w5.drewN n).cell? ⟨R,1,none⟩ = some (.int .i64 (d:Int)):=fun n=>hA5.h1
     go_quiet ((go_at_call 151;refine cC m _ _ hml))
     have g1:=e1 nq
     have hA6:=hA5.drewN nq
     have M6:=M5.drewN nq
     have f6:=hA6.fz 1
     have hA7:RA ((w5.drewN nq).setCell ⟨R,1,none⟩ (.int .i64 ((d:Int) + (L.length:Int) + 2))) R s (d + L.length + 2):=hA6.put _ (by omega)
     have M7:=M6.trans (Mv.set R (w5.drewN nq) (.int .i64 ((d:Int) + (L.length:Int) + 2)))
     go_wp2_with (go_at_call 152;refine (cP _ hA7).mono ?_;clear cP;rintro e w8 ⟨rfl,m8⟩)
     exact ⟨rfl,rfl,M7.trans m8⟩
    rw [if_neg k1]
    have cP:=fun w h=>peek_ok R s (d + L.length + 2) w h (by omega)
    by_cases k2:ch s (d + L.length + 2) = 62
    ·rw [if_pos k2]
     rw [k2] at cP
     have cL:=fun w=>strClone B w (by omega)
     have cT:=tell_tok R 6 E0 B a
     go_enter Tryz.func115,Tryz.ntmps115
     go_wp2_with (first
      | (go_at_call 150;refine (cE1 _ hA2).mono ?_;clear cE1;rintro e w4 ⟨m4,rfl,hA4⟩)
      | (go_at_call 150;refine (cE2 _ hA4).mono ?_;clear cE2;rintro e w5 ⟨m5,rfl,hA5⟩))
     have M5:=(hm.trans m4).trans m5
     obtain ⟨m,hml⟩:=(hE.but M5.but hR h.lt).ml
     have e0:∀ n,(w5.drewN n).cell? ⟨R,0,none⟩ = some (.string s):=fun n=>hA5.h0
     have e1:∀ n,(w5.drewN n).cell? ⟨R,1,none⟩ = some (.int .i64 (d:Int)):=fun n=>hA5.h1
     go_quiet ((go_at_call 151;refine cC m _ _ hml))
     have g1:=e1 nq
     have hA6:=hA5.drewN nq
     have M6:=M5.drewN nq
     have f6:=hA6.fz 1
     have hA7:RA ((w5.drewN nq).setCell ⟨R,1,none⟩ (.int .i64 ((d:Int) + (L.length:Int) + 2))) R s (d + L.length + 2):=hA6.put _ (by omega)
     have M7:=M6.trans (Mv.set R (w5.drewN nq) (.int .i64 ((d:Int) + (L.length:Int) + 2)))
     go_wp2_with (first
      | (go_at_call 152;refine (cP _ hA7).mono ?_;clear cP;rintro e w8 ⟨rfl,m8,hA8⟩;have g8:=hA8.h1;have f8:=hA8.fz 1;have hA9:RA (w8.setCell ⟨R,1,none⟩ (.int .i64 (((d + L.length + 2:Nat):Int) + 1))) R s (d + L.length + 2 + 1):=hA8.put _ (by omega);have M9:=(M7.trans m8).trans (Mv.set R w8 (.int .i64 (((d + L.length + 2:Nat):Int) + 1))))
      | (go_at_call 112;refine (cL _).mono ?_;clear cL;rintro e w10 ⟨rfl,hb10⟩)
      | (go_at_call 111;refine (cT _ _ (h.mv (M9.trans (Mv.of hb10 hA9.lt)) (hA9.below hb10))).mono ?_;clear cT;rintro e w11 ⟨rfl,hb11,hr11⟩))
     go_ret
     exact ⟨rfl,(M9.trans (Mv.of hb10 hA9.lt)).but.trans hb11,hr11⟩
    rw [if_neg k2]
    generalize ch s (d + L.length + 2) = c at *
    have k3:((c:Int) == 62) = false:=beq_eq_false_iff_ne.2 (by omega)
    have k4:((c:Int) != 62) = true:=bne_iff_ne.2 (by omega)
    have cG:=fun w=>giveUp_lit 43 43 (d + L.length) rfl w
    rw [Int.natCast_add] at cG
    go_enter Tryz.func115,Tryz.ntmps115
    go_wp2_with (first
     | (go_at_call 150;refine (cE1 _ hA2).mono ?_;clear cE1;rintro e w4 ⟨m4,rfl,hA4⟩)
     | (go_at_call 150;refine (cE2 _ hA4).mono ?_;clear cE2;rintro e w5 ⟨m5,rfl,hA5⟩))
    have M5:=(hm.trans m4).trans m5
    obtain ⟨m,hml⟩:=(hE.but M5.but hR h.lt).ml
    have e0:∀ n,(w5.drewN n).cell? ⟨R,0,none⟩ = some (.string s):=fun n=>hA5.h0
    have e1:∀ n,(w5.drewN n).cell? ⟨R,1,none⟩ = some (.int .i64 (d:Int)):=fun n=>hA5.h1
    go_quiet ((go_at_call 151;refine cC m _ _ hml))
    have g1:=e1 nq
    have hA6:=hA5.drewN nq
    have M6:=M5.drewN nq
    have f6:=hA6.fz 1
    have hA7:RA ((w5.drewN nq).setCell ⟨R,1,none⟩ (.int .i64 ((d:Int) + (L.length:Int) + 2))) R s (d + L.length + 2):=hA6.put _ (by omega)
    have M7:=M6.trans (Mv.set R (w5.drewN nq) (.int .i64 ((d:Int) + (L.length:Int) + 2)))
    go_wp2_with (first
     | (go_at_call 152;refine (cP _ hA7).mono ?_;clear cP;rintro e w8 ⟨rfl,m8,hA8⟩)
     | (go_at_call 85;refine (cG _).mono ?_;rintro e w9 ⟨rfl,rfl⟩))
    exact ⟨rfl,rfl,M7.trans m8⟩
theorem cpB_true {s p:ByteArray} (h:(cpB s p).2 = true):(cpB s p).1.size + p.size = s.size:=by
 unfold cpB at h ⊢
 split at h
 ·rename_i hp
  rw [if_pos hp]
  have:=prefix_size hp
  show (s.extract p.size s.size).size + _ = _
  rw [size_ext s _ _ (Nat.le_refl _)]
  omega
 ·cases h
theorem declN_pos {s:ByteArray} (h:¬ declN s = 0):7 ≤ declN s ∧ declN s ≤ s.size:=by
 unfold declN at h ⊢
 split at h
 ·rename_i hc
  rw [if_pos hc]
  simp only [Bool.and_eq_true] at hc
  have h1:(cpB s bXML).1.size + 5 = s.size:=cpB_true hc.1
  have h2:(dr4 s).1.size + 2 = (tlB (dr3 s).1).size:=cpB_true hc.2.2
  have h3:=tlB_size (dr3 s).1
  have k1:(dr1 s).1.size ≤ (cpB s bXML).1.size:=setB_size _ _ _
  have k2:(dr2 s).1.size ≤ (dr1 s).1.size:=setB_size _ _ _
  have k3:(dr3 s).1.size ≤ (dr2 s).1.size:=setB_size _ _ _
  omega
 ·exact absurd rfl h
theorem slice_fromto (s:ByteArray) (a b:Nat) (hab:a ≤ b) (hb:b ≤ s.size) (w:World):(Instr.slice 9 (.string s) (some (.int .i64 (a:Int))) (some (.int .i64 (b:Int))) none).run Tryz.prog w = .ok (.string (s.extract a b)) w:=by
 rw [run_slice_string w 9 s .i64 .i64 (a:Int) (b:Int) Tryz.underlying9 (by omega) (by omega) (by omega),Int.toNat_natCast,Int.toNat_natCast]
def declZ (s:ByteArray):Sz :=
 if declN s = 0 then .bad 44 0 else .go (some 88) (declN s) (some ⟨7,E0,s.extract 5 (declN s - 2),0⟩)
theorem declaration_any (R:Nat) (s:ByteArray) (v:Nat → Value) (w:World) (h:RC w R v) (v0:v 0 = .string s) (v1:v 1 = .int .i64 ((0:Nat):Int)) (hs:s.size < 4294967281) (hE:Env w) :
  Calls Tryz.prog 87 #[.pointer (some ⟨R,0,none⟩)] w (StPost R w v (declZ s)):=by
 have hA:=h.ra v0 v1
 have c0:=hA.h0
 have cD:=declSize_any s w hs hE.ft
 unfold declZ
 by_cases h0:declN s = 0
 ·rw [if_pos h0]
  rw [h0] at cD
  go_enter Tryz.func87,Tryz.ntmps87
  go_wp2_with (first
   | (go_at_call 110;refine cD.mono ?_;clear cD;rintro e w2 ⟨rfl,hb2⟩)
   | (go_at_call 85;refine (giveUp_lit 44 44 0 rfl _).mono ?_;rintro e w6 ⟨rfl,rfl⟩))
  exact ⟨rfl,rfl,Mv.of hb2 h.lt⟩
 ·rw [if_neg h0]
  have hp:=declN_pos h0
  generalize declN s = n at *
  have k0:¬ (n:Int) = 0:=by omega
  have k1:((n:Int) == 0) = false:=beq_eq_false_iff_ne.2 k0
  have e2:((n - 2:Nat):Int) = (n:Int) - 2:=by omega
  have sl:∀ w:World,(Instr.slice 9 (.string s) (some (.int .i64 5)) (some (.int .i64 ((n:Int) - 2))) none).run Tryz.prog w = .ok (.string (s.extract 5 (n - 2))) w:=fun w=>by
   rw [← e2]
   exact slice_fromto s 5 (n - 2) (by omega) (by omega) w
  have hz:=size_ext s 5 (n - 2) (by omega)
  have cC:=fun w=>strClone (s.extract 5 (n - 2)) w (by omega)
  have cT:=tell_tok R 7 E0 (s.extract 5 (n - 2)) 0
  generalize s.extract 5 (n - 2) = u at *
  clear e2
  go_enter Tryz.func87,Tryz.ntmps87
  go_wp2_with (first
   | (go_at_call 110;refine cD.mono ?_;clear cD;rintro e w2 ⟨rfl,hb2⟩;have hA2:=hA.below hb2;have g0:(w2.setCell ⟨R,1,none⟩ (.int .i64 (n:Int))).cell? ⟨R,0,none⟩ = some (.string s):=(hA2.put (n:Int) rfl).h0;have g1:=hA2.h1;have f1:=hA2.fz 1;have hA3:=hA2.put (b:=n) (n:Int) rfl;have M3:=(Mv.of hb2 h.lt).trans (Mv.set R w2 (.int .i64 (n:Int))))
   | (go_at_call 112;refine (cC _).mono ?_;clear cC;rintro e w4 ⟨rfl,hb4⟩)
   | (go_at_call 111;refine (cT _ _ (h.mv (M3.trans (Mv.of hb4 hA3.lt)) (hA3.below hb4))).mono ?_;clear cT;rintro e w5 ⟨rfl,hb5,hr5⟩))
  go_ret
  exact ⟨rfl,(M3.trans (Mv.of hb4 hA3.lt)).but.trans hb5,hr5⟩
def beginZ (s:ByteArray):Sz :=
 if 1048576 < s.size then .bad 45 1048576
 else if (faultN xmlB s).1 = 0 then
  if Lib.hasPrefix s.data.toList bXML.data.toList = true then .go (some 87) 0 none else .go (some 88) 0 none
 else .bad (faultN xmlB s).1 (faultN xmlB s).2
theorem begin_any (R:Nat) (s:ByteArray) (v:Nat → Value) (w:World) (h:RC w R v) (v0:v 0 = .string s) (v1:v 1 = .int .i64 ((0:Nat):Int)) (hs:s.size ≤ 9223372036854775807) :
  Calls Tryz.prog 66 #[.pointer (some ⟨R,0,none⟩)] w (StPost R w v (beginZ s)):=by
 have hA:=h.ra v0 v1
 have c0:=hA.h0
 have hmf:=hmfA
 have FIN:∀ w',Below w.heap.size w w' → But R w w' ∧ RC w' R (fin v 0 none):=fun w' hb=>⟨But.of hb,by show RC _ R (upd v 1 _);rw [upd_same v 1 _ v1];exact h.below hb⟩
 unfold beginZ
 by_cases h1:1048576 < s.size
 ·rw [if_pos h1]
  have k1:(1048576:Int) < (s.size:Int):=by omega
  go_enter Tryz.func66,Tryz.ntmps66
  go_wp2_with (go_at_call 85;refine (giveUp_lit 45 45 1048576 rfl _).mono ?_;rintro e w6 ⟨rfl,rfl⟩)
  exact ⟨rfl,rfl,Mv.refl R _⟩
 rw [if_neg h1]
 have k1:¬ (1048576:Int) < (s.size:Int):=by omega
 have cC:=Chars_all s w hs
 generalize (faultN xmlB s).1 = er at *
 generalize (faultN xmlB s).2 = p at *
 by_cases h2:er = 0
 ·subst h2
  rw [if_pos rfl]
  have cH:=fun w=>strHasPrefix s bXML w
  cases hx:Lib.hasPrefix s.data.toList bXML.data.toList
  ·rw [hx] at cH
   rw [if_neg (by decide)]
   clear hx
   go_enter Tryz.func66,Tryz.ntmps66
   go_wp2_with (first
    | (go_at_call 39;refine cC.mono ?_;clear cC;rintro e w2 ⟨rfl,hb2⟩;have d0:=(hA.below hb2).h0)
    | (go_at_call 86;refine (cH _).mono ?_;clear cH;rintro e w3 ⟨rfl,rfl⟩))
   go_ret
   exact ⟨rfl,(FIN _ hb2).1,(FIN _ hb2).2⟩
  ·rw [hx] at cH
   rw [if_pos rfl]
   clear hx
   go_enter Tryz.func66,Tryz.ntmps66
   go_wp2_with (first
    | (go_at_call 39;refine cC.mono ?_;clear cC;rintro e w2 ⟨rfl,hb2⟩;have d0:=(hA.below hb2).h0)
    | (go_at_call 86;refine (cH _).mono ?_;clear cH;rintro e w3 ⟨rfl,rfl⟩))
   go_ret
   exact ⟨rfl,(FIN _ hb2).1,(FIN _ hb2).2⟩
 ·rw [if_neg h2]
  have k2:¬ (er:Int) = 0:=by omega
  have k3:((er:Int) == 0) = false:=beq_eq_false_iff_ne.2 k2
  go_enter Tryz.func66,Tryz.ntmps66
  go_wp2_with (first
   | (go_at_call 39;refine cC.mono ?_;clear cC;rintro e w2 ⟨rfl,hb2⟩)
   | (go_at_call 85;refine (giveUp_any er p _).mono ?_;rintro e w6 ⟨rfl,rfl⟩))
  exact ⟨rfl,rfl,Mv.of hb2 h.lt⟩
end Go.Proofs.YtchfphakhmifmabGreatDoor
