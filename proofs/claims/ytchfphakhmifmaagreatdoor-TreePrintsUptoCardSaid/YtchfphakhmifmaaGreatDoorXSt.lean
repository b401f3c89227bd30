/- The reader's states: its ten cells; tell. -/
import Derived.Test.YtchfphakhmifmaaGreatDoorXPr2
import Derived.Test.YtchfphakhmifmaaGreatDoorXDecl2
namespace Go.Proofs.YtchfphakhmifmaaGreatDoor
open Go.ChangeShapes Go.WideShapes Go.ChangeAt Go.RowKit Go.Shelf Go.Lib

/-- A piece. -/
structure Tok where
  k : Nat
  nm : ByteArray
  vl : ByteArray
  p : Nat
def Tok.v (t : Tok) : Value := .agg #[.int .i64 (t.k : Int), .string t.nm, .string t.vl, .int .i64 (t.p : Int)]
/-- The reader's ten cells. -/
structure RC (w : World) (R : Nat) (v : Nat → Value) : Prop where
  c : ∀ o, o < 10 → w.cell? ⟨R, o, none⟩ = some (v o)
  fz : ∀ o, w.frozen? ⟨R, o, none⟩ = false
  lt : R < w.heap.size
def upd (v : Nat → Value) (i : Nat) (u : Value) : Nat → Value := fun j => if j = i then u else v j
theorem RC.below {w w' : World} {R : Nat} {v : Nat → Value} (h : RC w R v) (hb : Below w.heap.size w w') : RC w' R v :=
  ⟨fun o ho => (hb.cell (p := ⟨R, o, none⟩) h.lt).trans (h.c o ho), fun o => (hb.frozen (p := ⟨R, o, none⟩) h.lt).trans (h.fz o), Nat.lt_of_lt_of_le h.lt hb.size⟩
theorem RC.ra {w : World} {R : Nat} {v : Nat → Value} {s : ByteArray} {a : Nat} (h : RC w R v) (h0 : v 0 = .string s) (h1 : v 1 = .int .i64 (a : Int)) : RA w R s a :=
  ⟨(h.c 0 (by decide)).trans (by rw [h0]), (h.c 1 (by decide)).trans (by rw [h1]), h.fz, h.lt⟩
theorem RC.mv {w w' : World} {R : Nat} {v : Nat → Value} {s : ByteArray} {b : Nat} (h : RC w R v) (m : Mv R w w') (hA : RA w' R s b) : RC w' R (upd v 1 (.int .i64 (b : Int))) :=
  ⟨fun o ho => by
    unfold upd
    by_cases e : o = 1
    · subst e; rw [if_pos rfl]; exact hA.h1
    · rw [if_neg e]; exact (m.cell o e).trans (h.c o ho), hA.fz, hA.lt⟩
theorem But.set (R o : Nat) (w : World) (u : Value) : But R w (w.setCell ⟨R, o, none⟩ u) := ⟨rfl, rfl, rfl, by simp [World.setCell], fun k _ hk => Below.heap_setCell _ _ _ _ hk⟩
theorem RC.set {w : World} {R : Nat} {v : Nat → Value} (h : RC w R v) (i : Nat) (hi : i < 10) (u : Value) : RC (w.setCell ⟨R, i, none⟩ u) R (upd v i u) :=
  ⟨fun o ho => by
    unfold upd
    by_cases e : o = i
    · subst e; rw [if_pos rfl]; exact World.cell?_setCell_same w ⟨R, o, none⟩ _ (h.c o ho)
    · rw [if_neg e]; exact (World.cell?_setCell_other w _ _ _ (fun e' => e (by injection e' with _ e2; exact e2.symm))).trans (h.c o ho),
    fun o => by rw [World.frozen?_setCell]; exact h.fz o, by simpa [World.setCell] using h.lt⟩
def told (v : Nat → Value) (t : Tok) : Nat → Value := upd (upd (upd (upd (upd v 3 (.int .i64 (t.k : Int))) 4 (.string t.nm)) 5 (.string t.vl)) 6 (.int .i64 (t.p : Int))) 7 (.bool true)
set_option maxHeartbeats 1000000 in
theorem tell_any (R : Nat) (t : Tok) (w : World) (v : Nat → Value) (h : RC w R v) :
    Calls Tryz.prog 108 #[.pointer (some ⟨R, 0, none⟩), t.v] w fun e w' => e = .returned (.tuple #[]) ∧ But R w w' ∧ RC w' R (told v t) := by
  have hb := bel1 w (.cells #[.int .i64 (t.k : Int), .string t.nm, .string t.vl, .int .i64 (t.p : Int)] 39)
  have h0 := h.below hb
  have h3 := h0.set 3 (by decide) (.int .i64 (t.k : Int))
  have h4 := h3.set 4 (by decide) (.string t.nm)
  have h5 := h4.set 5 (by decide) (.string t.vl)
  have h6 := h5.set 6 (by decide) (.int .i64 (t.p : Int))
  have h7 := h6.set 7 (by decide) (.bool true)
  have H7 : Hid (RC _ R (told v t)) := h7
  have HB : Hid (But R w _) := (But.of hb).trans ((((But.set R 3 _ (.int .i64 (t.k : Int))).trans (But.set R 4 _ (.string t.nm))).trans ((But.set R 5 _ (.string t.vl)).trans (But.set R 6 _ (.int .i64 (t.p : Int))))).trans (But.set R 7 _ (.bool true)))
  have a3 := h0.c 3 (by decide)
  have b3 := h0.fz 3
  have a4 := h3.c 4 (by decide)
  have b4 := h3.fz 4
  have a5 := h4.c 5 (by decide)
  have b5 := h4.fz 5
  have a6 := h5.c 6 (by decide)
  have b6 := h5.fz 6
  have a7 := h6.c 7 (by decide)
  have b7 := h6.fz 7
  clear h7 h6 h5 h4 h3 h0 hb h
  unfold Tok.v
  go_enter Tryz.func108, Tryz.ntmps108
  go_wp2_with fail
  go_end0
  exact ⟨rfl, HB.out, H7.out⟩
theorem upd_upd (v : Nat → Value) (i : Nat) (x y : Value) : upd (upd v i x) i y = upd v i y := by
  funext j
  unfold upd
  split <;> rfl
theorem told_upd (v : Nat → Value) (x : Value) (t : Tok) : upd (told v t) 1 x = told (upd v 1 x) t := by
  funext j
  unfold told upd
  repeat' split
  all_goals first | rfl | omega
theorem upd_same (v : Nat → Value) (i : Nat) (x : Value) (h : v i = x) : upd v i x = v := by
  funext j
  unfold upd
  split
  · rename_i e; rw [e, h]
  · rfl
/-- A byte that must stand at a place. -/
def expZ (s : ByteArray) (a c : Nat) : Option (Nat × Nat) := if s.size ≤ a then some (41, s.size) else if ch s a = c then none else some (40, a)
def ExpPost (R : Nat) (s : ByteArray) (w : World) (a : Nat) (z : Option (Nat × Nat)) (e : Ending) (w' : World) : Prop :=
  Mv R w w' ∧ match z with
    | none => e = .returned (.tuple #[]) ∧ RA w' R s (a + 1)
    | some (er, p) => e = .panicked [pv er p]
theorem expect_any (R : Nat) (s : ByteArray) (a c : Nat) (w : World) (h : RA w R s a) (ha : a ≤ s.size) (hs : s.size < 4294967281) :
    Calls Tryz.prog 132 #[.pointer (some ⟨R, 0, none⟩), .int .u8 (c : Int)] w (ExpPost R s w a (expZ s a c)) := by
  unfold expZ
  by_cases h1 : s.size ≤ a
  · obtain rfl : a = s.size := by omega
    rw [if_pos h1]
    exact (expect_end R s c w h).mono fun e w' ⟨h1, h2⟩ => ⟨h2, h1⟩
  · rw [if_neg h1]
    by_cases h2 : ch s a = c
    · rw [if_pos h2]
      exact (expect_ok R s a c w h (by omega) (by omega) h2).mono fun e w' ⟨h1, h2, h3⟩ => ⟨h2, h1, h3⟩
    · rw [if_neg h2]
      exact (expect_no R s a c w h (by omega) h2).mono fun e w' ⟨h1, h2⟩ => ⟨h2, h1⟩
theorem expZ_none {s : ByteArray} {a c : Nat} (h : expZ s a c = none) : a < s.size ∧ ch s a = c := by
  unfold expZ at h
  split at h
  · cases h
  · split at h
    · rename_i h1 h2; exact ⟨by omega, h2⟩
    · cases h
theorem nameZ_val {s : ByteArray} {a : Nat} {v : ByteArray} {b : Nat} (h : nameZ s a = .val v b) : a < s.size ∧ a ≤ b ∧ b ≤ s.size := by
  unfold nameZ at h
  split at h
  · cases h
  · split at h
    · rename_i h1 h2
      injection h with h3 h4
      have := upN_le NEb.data.toList s a (by omega)
      omega
    · cases h
theorem expect_bad {R : Nat} {s : ByteArray} {a c er p : Nat} (hz : expZ s a c = some (er, p)) (ha : a ≤ s.size) (hs : s.size < 4294967281) (w : World) (h : RA w R s a) :
    Calls Tryz.prog 132 #[.pointer (some ⟨R, 0, none⟩), .int .u8 (c : Int)] w fun e w' => Mv R w w' ∧ e = .panicked [pv er p] := by
  have := expect_any R s a c w h ha hs
  rw [hz] at this
  exact this
theorem expect_good {R : Nat} {s : ByteArray} {a c : Nat} (hz : expZ s a c = none) (ha : a ≤ s.size) (hs : s.size < 4294967281) (w : World) (h : RA w R s a) :
    Calls Tryz.prog 132 #[.pointer (some ⟨R, 0, none⟩), .int .u8 (c : Int)] w fun e w' => Mv R w w' ∧ e = .returned (.tuple #[]) ∧ RA w' R s (a + 1) := by
  have := expect_any R s a c w h ha hs
  rw [hz] at this
  exact this
theorem name_bad {R : Nat} {s : ByteArray} {a er p : Nat} (hz : nameZ s a = .bad er p) (ha : a ≤ s.size) (hs : s.size < 4294967281) (w : World) (h : RA w R s a) :
    Calls Tryz.prog 130 #[.pointer (some ⟨R, 0, none⟩)] w fun e w' => Mv R w w' ∧ e = .panicked [pv er p] := by
  have := name_any R s a w h ha hs
  rw [hz] at this
  exact this
theorem name_good {R : Nat} {s : ByteArray} {a b : Nat} {v : ByteArray} (hz : nameZ s a = .val v b) (ha : a ≤ s.size) (hs : s.size < 4294967281) (w : World) (h : RA w R s a) :
    Calls Tryz.prog 130 #[.pointer (some ⟨R, 0, none⟩)] w fun e w' => Mv R w w' ∧ e = .returned (.string v) ∧ RA w' R s b := by
  have := name_any R s a w h ha hs
  rw [hz] at this
  exact this
theorem value_bad {R : Nat} {s : ByteArray} {a er p : Nat} (hz : valueZ s a = .bad er p) (ha : a ≤ s.size) (hs : s.size < 4294967281) (w : World) (h : RA w R s a) :
    Calls Tryz.prog 167 #[.pointer (some ⟨R, 0, none⟩)] w fun e w' => Mv R w w' ∧ e = .panicked [pv er p] := by
  have := value_any R s a w h ha hs
  rw [hz] at this
  exact this
theorem value_good {R : Nat} {s : ByteArray} {a b : Nat} {v : ByteArray} (hz : valueZ s a = .val v b) (ha : a ≤ s.size) (hs : s.size < 4294967281) (w : World) (h : RA w R s a) :
    Calls Tryz.prog 167 #[.pointer (some ⟨R, 0, none⟩)] w fun e w' => Mv R w w' ∧ e = .returned (.string v) ∧ RA w' R s b := by
  have := value_any R s a w h ha hs
  rw [hz] at this
  exact this
theorem plain_bad {v t : ByteArray} {p er q : Nat} (hz : plainZ v p = (some (er, q), t)) (w : World) (hv : v.size < 4294967281) (hp : p < 4294967281) :
    Calls Tryz.prog 129 #[.string v, .int .i64 (p : Int)] w fun e w' => Below w.heap.size w w' ∧ e = .panicked [pv er q] := by
  have := plain_any v p w hv hp
  rw [hz] at this
  exact this
theorem plain_good {v t : ByteArray} {p : Nat} (hz : plainZ v p = (none, t)) (w : World) (hv : v.size < 4294967281) (hp : p < 4294967281) :
    Calls Tryz.prog 129 #[.string v, .int .i64 (p : Int)] w fun e w' => Below w.heap.size w w' ∧ e = .returned (.string t) := by
  have := plain_any v p w hv hp
  rw [hz] at this
  exact this
theorem tell_tok (R : Nat) (k : Nat) (nm vl : ByteArray) (p : Nat) (w : World) (v : Nat → Value) (h : RC w R v) :
    Calls Tryz.prog 108 #[.pointer (some ⟨R, 0, none⟩), .agg #[.int .i64 (k : Int), .string nm, .string vl, .int .i64 (p : Int)]] w fun e w' => e = .returned (.tuple #[]) ∧ But R w w' ∧ RC w' R (told v ⟨k, nm, vl, p⟩) := tell_any R ⟨k, nm, vl, p⟩ w v h
/-- What a state comes to: the error and its place; or the state that follows, the place, the piece that is told. -/
inductive Sz where
  | bad (e p : Nat)
  | go (nx : Option Nat) (a : Nat) (t : Option Tok)
def fnV (R : Nat) : Option Nat → Value
  | none => Value.nilFunc
  | some f => .func (.func f) #[.pointer (some ⟨R, 0, none⟩)] #[]
def fin (v : Nat → Value) (a : Nat) : Option Tok → Nat → Value
  | none => upd v 1 (.int .i64 (a : Int))
  | some t => told (upd v 1 (.int .i64 (a : Int))) t
def StPost (R : Nat) (w : World) (v : Nat → Value) (z : Sz) (e : Ending) (w' : World) : Prop :=
  match z with
  | .bad er p => e = .panicked [pv er p] ∧ Mv R w w'
  | .go nx a t => e = .returned (fnV R nx) ∧ But R w w' ∧ RC w' R (fin v a t)
end Go.Proofs.YtchfphakhmifmaaGreatDoor
