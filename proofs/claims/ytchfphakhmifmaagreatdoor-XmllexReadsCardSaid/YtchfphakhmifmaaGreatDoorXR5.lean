/- The document's reader of pieces: its parts with the pieces so far; an end tag. -/
import Derived.Test.YtchfphakhmifmaaGreatDoorXR3
import Derived.Test.YtchfphakhmifmaaGreatDoorXR4
import Derived.Test.YtchfphakhmifmaaGreatDoorXTk
namespace Go.Proofs.YtchfphakhmifmaaGreatDoor
open Go.ChangeShapes Go.WideShapes Go.ChangeAt Go.RowKit Go.Shelf Go.Lib

theorem But.belowR {R : Nat} {w w' : World} (h : But R w w') (hR : R ≤ w.heap.size) : Below R w w' := ⟨h.os, h.tape, h.output, h.size, fun k hk => h.block k (by omega) (by omega)⟩
theorem own_but {w w' : World} {R : Nat} {v : Value} {n : Nat} {xs : List Value} (h : w.ownsRow (R + 1) 39 4 v n xs) (hb : But R w w') : w'.ownsRow (R + 1) 39 4 v n xs := by
  refine World.ownsRow.kept (row := some R) h ⟨hb.os, hb.tape, hb.output, hb.size, fun k hk hn => hb.block k hk (fun e => hn (by rw [e]))⟩ ?_
  rcases h.2 with ⟨rfl, _⟩ | ⟨g, c, cur, rfl, hg, _⟩
  · exact .inl rfl
  · exact .inr (fun e => by have : g = R := Option.some.inj e; omega)
theorem RP.lt {w : World} {R : Nat} {s : ByteArray} {a : Nat} {al : List IT} {er fl : Nat} (h : RP w R s a al er fl) : R < w.heap.size := by
  obtain ⟨v, hx, _⟩ := h.x
  exact hx.lt
theorem RP.drewN {w : World} {R : Nat} {s : ByteArray} {a : Nat} {al : List IT} {er fl : Nat} (h : RP w R s a al er fl) (n : Nat) : RP (w.drewN n) R s a al er fl := by
  obtain ⟨v, hx, ho⟩ := h.x
  exact ⟨v, hx.drewN n, own_but ho (but_drewN (But.refl R w) n)⟩
theorem upN_row (s : ByteArray) (a : Nat) : upN NEb.data.toList s a = rowN s a := by
  unfold upN rowN lOf
  rw [← List.map_drop, List.findIdx_map]
  congr 2
  funext b
  show List.contains [9, 10, 13, 32, 60, 62, 47, 61, 34, 39, 38] b = !nmB b.toNat
  unfold nmB bla
  rw [Bool.eq_iff_iff]
  simp only [List.contains_cons, List.contains_nil, Bool.or_false, Bool.or_eq_true, beq_iff_eq, Bool.not_eq_true', Bool.and_eq_false_iff, decide_eq_false_iff_not, Bool.not_eq_false', decide_eq_true_eq, ← UInt8.toNat_inj]
  simp
  omega
theorem nameZ_eq {s : ByteArray} {a : Nat} (ha : a ≤ s.size) : nameZ s a = match nameY s a with
    | .inl b => .val (nameT s a) b
    | .inr (e, p) => .bad e p := by
  unfold nameZ nameT nameY
  rw [upN_row]
  by_cases h : a = s.size
  · rw [if_pos (by omega), if_pos h, h]
  · rw [if_neg (by omega), if_neg h]
    cases hx : xmlNameB (s.extract a (rowN s a))
    · simp
    · simp [okZ]
theorem expZ_eq {s : ByteArray} {a c : Nat} (ha : a ≤ s.size) : expZ s a c = match byteZ s a c with
    | .inl _ => none
    | .inr ep => some ep := by
  unfold expZ byteZ
  by_cases h : a = s.size
  · rw [if_pos (by omega), if_pos h, h]
  · rw [if_neg (by omega), if_neg h]
    by_cases h2 : ch s a = c
    · rw [if_pos h2, if_pos h2]
    · rw [if_neg h2, if_neg h2]
theorem byteZ_inl {s : ByteArray} {a c b : Nat} (h : byteZ s a c = .inl b) : b = a + 1 := by
  unfold byteZ at h
  split at h
  · cases h
  · split at h
    · injection h with h; exact h.symm
    · cases h
/-- What a part that answers a text leaves, with the pieces. -/
def RzP (R : Nat) (s : ByteArray) (al : List IT) (w : World) (z : Rz) (a : Nat) (e : Ending) (w' : World) : Prop :=
  Hid (Below R w w') ∧ match z with
    | .bad er p => e = .returned (.tuple #[.string E0, .bool false]) ∧ Hid (RP w' R s a al er p)
    | .val t b => e = .returned (.tuple #[.string t, .bool true]) ∧ Hid (RP w' R s b al 0 0)
theorem pname {R : Nat} {s : ByteArray} {a : Nat} {al : List IT} {w : World} (h : RP w R s a al 0 0) (ha : a ≤ s.size) (hs : s.size ≤ 1048576) :
    Calls Tryz.prog 91 #[.pointer (some ⟨R, 0, none⟩)] w (RzP R s al w (nameZ s a) a) := by
  obtain ⟨v, hx, ho⟩ := h.x
  refine (rname R s a v w hx ha (by omega)).mono ?_
  rintro e w' ⟨rfl, hb, hz⟩
  unfold RzP
  rw [nameZ_eq ha]
  cases hn : nameY s a with
  | inl b =>
    rw [hn] at hz
    exact ⟨hb.belowR (Nat.le_of_lt hx.lt), rfl, ⟨v, hz, own_but ho hb⟩⟩
  | inr ep =>
    obtain ⟨er, p⟩ := ep
    rw [hn] at hz
    have e0 : nameT s a = E0 := by unfold nameT; rw [hn]; rfl
    rw [e0]
    exact ⟨hb.belowR (Nat.le_of_lt hx.lt), rfl, ⟨v, hz, own_but ho hb⟩⟩
theorem pbyte {R : Nat} {s : ByteArray} {a c : Nat} {al : List IT} {w : World} (h : RP w R s a al 0 0) (ha : a ≤ s.size) (hs : s.size ≤ 1048576) :
    Calls Tryz.prog 92 #[.pointer (some ⟨R, 0, none⟩), .int .u8 (c : Int)] w fun e w' => Hid (Below R w w') ∧ match expZ s a c with
      | some (er, p) => e = .returned (.bool false) ∧ Hid (RP w' R s a al er p)
      | none => e = .returned (.bool true) ∧ Hid (RP w' R s (a + 1) al 0 0) := by
  obtain ⟨v, hx, ho⟩ := h.x
  refine (rbyteIs R s a v c w hx ha (by omega)).mono ?_
  rintro e w' ⟨rfl, hb, hz⟩
  rw [expZ_eq ha]
  cases hn : byteZ s a c with
  | inl b =>
    rw [hn] at hz
    have := byteZ_inl hn
    subst this
    exact ⟨hb.belowR (Nat.le_of_lt hx.lt), rfl, ⟨v, hz, own_but ho hb⟩⟩
  | inr ep =>
    obtain ⟨er, p⟩ := ep
    rw [hn] at hz
    exact ⟨hb.belowR (Nat.le_of_lt hx.lt), rfl, ⟨v, hz, own_but ho hb⟩⟩
theorem pblanks {R : Nat} {s : ByteArray} {a : Nat} {al : List IT} {w : World} (h : RP w R s a al 0 0) (ha : a ≤ s.size) (hs : s.size ≤ 1048576) :
    Calls Tryz.prog 87 #[.pointer (some ⟨R, 0, none⟩)] w fun e w' => e = .returned (.int .i64 ((skN s a - a : Nat) : Int)) ∧ Hid (Below R w w') ∧ Hid (RP w' R s (skN s a) al 0 0) := by
  obtain ⟨v, hx, ho⟩ := h.x
  refine (rblanks R s a w hx.ra ha (by omega)).mono ?_
  rintro e w' ⟨rfl, hm, hr⟩
  exact ⟨rfl, hm.but.belowR (Nat.le_of_lt hx.lt), ⟨v, hx.mv hm hr, own_but ho hm.but⟩⟩
theorem pvalue {R : Nat} {s : ByteArray} {a : Nat} {al : List IT} {w : World} (h : RP w R s a al 0 0) (ha : a ≤ s.size) (hs : s.size ≤ 1048576) :
    Calls Tryz.prog 93 #[.pointer (some ⟨R, 0, none⟩)] w (RzP R s al w (valueZ s a) a) := by
  obtain ⟨v, hx, ho⟩ := h.x
  refine (rvalue R s a v w hx ha hs).mono ?_
  rintro e w' ⟨hb, hz⟩
  unfold RzP
  cases hn : valueZ s a with
  | val t b => rw [hn] at hz; exact ⟨hb.belowR (Nat.le_of_lt hx.lt), hz.1, ⟨v, hz.2, own_but ho hb⟩⟩
  | bad er p => rw [hn] at hz; exact ⟨hb.belowR (Nat.le_of_lt hx.lt), hz.1, ⟨v, hz.2, own_but ho hb⟩⟩
theorem pfault {R : Nat} {s : ByteArray} {a er p : Nat} {al : List IT} {w : World} (h : RP w R s a al 0 0) :
    Calls Tryz.prog 40 #[.pointer (some ⟨R, 0, none⟩), .int .i64 (er : Int), .int .i64 (p : Int)] w fun e w' => e = .returned (.bool false) ∧ Hid (Below R w w') ∧ Hid (RP w' R s a al er p) := by
  obtain ⟨v, hx, ho⟩ := h.x
  refine (rfault R s a v er p w hx).mono ?_
  rintro e w' ⟨rfl, hb, hz⟩
  exact ⟨rfl, hb.belowR (Nat.le_of_lt hx.lt), ⟨v, hz, own_but ho hb⟩⟩
/-- The place is laid anew. -/
theorem RP.place {w : World} {R : Nat} {s : ByteArray} {a b : Nat} {al : List IT} {er fl : Nat} (h : RP w R s a al er fl) (z : Int) (hz : z = (b : Int)) : RP (w.setCell ⟨R, 1, none⟩ (.int .i64 z)) R s b al er fl := by
  obtain ⟨v, hx, ho⟩ := h.x
  exact ⟨v, hx.mv (Mv.set R w _) (hx.ra.put z hz), own_but ho (Mv.set R w _).but⟩
theorem below_place (w : World) (R : Nat) (u : Value) : Below R w (w.setCell ⟨R, 1, none⟩ u) := (Below.refl R w).setCell (Nat.le_refl _) _
/-- What a thing that is read leaves: a piece more, or the first fault. -/
def PZ (R : Nat) (s : ByteArray) (al : List IT) (w : World) (z : Sz) (e : Ending) (w' : World) : Prop :=
  Below R w w' ∧ match z with
    | .bad er p => e = .returned (.bool false) ∧ ∃ a, RP w' R s a al er p
    | .go _ b (some t) => e = .returned (.bool true) ∧ RP w' R s b (al ++ [⟨t.k, t.nm, t.vl, t.p⟩]) 0 0
    | .go _ _ none => False
set_option maxRecDepth 100000 in
set_option maxHeartbeats 4000000 in
theorem rclose (R : Nat) (s : ByteArray) (a : Nat) (al : List IT) (w : World) (h : RP w R s a al 0 0) (ha : a + 2 ≤ s.size) (hl : al.length ≤ 1048576) (hs : s.size ≤ 1048576) :
    Calls Tryz.prog 66 #[.pointer (some ⟨R, 0, none⟩)] w (PZ R s al w (endZ s a)) := by
  have hR := h.lt
  have d1 : w.cell? ⟨R, 1, none⟩ = some (.int .i64 (a : Int)) := by obtain ⟨v, hx, _⟩ := h.x; exact hx.c1
  have f1 : w.frozen? ⟨R, 1, none⟩ = false := by obtain ⟨v, hx, _⟩ := h.x; exact hx.fz 1
  have H1 := Hid.mk' (h.place ((a : Int) + 2) (b := a + 2) (by omega))
  have HB := Hid.mk' (below_place w R (.int .i64 ((a : Int) + 2)))
  have cN := pname H1.out ha hs
  unfold PZ endZ
  unfold RzP at cN
  cases hn : nameZ s (a + 2) with
  | bad er p =>
    rw [hn] at cN
    dsimp only at cN ⊢
    clear h hn
    go_enter Tryz.func66, Tryz.ntmps66
    go_wp2_with (go_at_call 91; refine cN.mono ?_; clear cN; rintro e w1 ⟨B1, rfl, H2⟩)
    go_ret
    exact ⟨HB.out.trans B1.out, rfl, _, H2.out⟩
  | val nm b =>
    rw [hn] at cN
    dsimp only at cN ⊢
    have hb := (nameZ_val hn).2.2
    have hk := skN_le s b hb
    have cB := fun (W : World) (h : RP W R s b al 0 0) => pblanks h hb hs
    have cE := fun (W : World) (h : RP W R s (skN s b) al 0 0) => pbyte (c := 62) h hk.2 hs
    have cP := fun (W : World) (h : RP W R s (skN s b + 1) al 0 0) => rput R s (skN s b + 1) al 4 nm E0 (a : Int) W h hl
    clear h hn
    cases hx : expZ s (skN s b) 62 with
    | some ep =>
      obtain ⟨er, p⟩ := ep
      rw [hx] at cE
      dsimp only at cE ⊢
      clear hx cP
      generalize skN s b = c at *
      go_enter Tryz.func66, Tryz.ntmps66
      go_wp2_with (first
        | (go_at_call 91; refine cN.mono ?_; clear cN; rintro e w1 ⟨B1, rfl, H2⟩)
        | (go_at_call 87; refine (cB _ H2.out).mono ?_; clear cB; rintro e w2 ⟨rfl, B2, H3⟩)
        | (go_at_call 92; refine (cE _ H3.out).mono ?_; clear cE; rintro e w3 ⟨B3, rfl, H4⟩))
      go_ret
      exact ⟨HB.out.trans (B1.out.trans (B2.out.trans B3.out)), rfl, _, H4.out⟩
    | none =>
      rw [hx] at cE
      dsimp only at cE ⊢
      clear hx
      generalize skN s b = c at *
      go_enter Tryz.func66, Tryz.ntmps66
      go_wp2_with (first
        | (go_at_call 91; refine cN.mono ?_; clear cN; rintro e w1 ⟨B1, rfl, H2⟩)
        | (go_at_call 87; refine (cB _ H2.out).mono ?_; clear cB; rintro e w2 ⟨rfl, B2, H3⟩)
        | (go_at_call 92; refine (cE _ H3.out).mono ?_; clear cE; rintro e w3 ⟨B3, rfl, H4⟩)
        | (go_at_call 69; refine (cP _ H4.out).mono ?_; clear cP; rintro e w4 ⟨rfl, B4, H5⟩))
      go_ret
      exact ⟨HB.out.trans (B1.out.trans (B2.out.trans (B3.out.trans B4))), rfl, H5⟩
end Go.Proofs.YtchfphakhmifmaaGreatDoor
