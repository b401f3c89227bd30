/- The reader of entities: its making, its names. -/
import Derived.Test.YthiilkmnbjgoaaaEnt1
import Derived.Maps.Own
import Derived.Maps.OwnSet
namespace Go.Proofs.Ythiilkmnbjgoaaa
open Go.ChangeShapes Go.WideShapes Go.ChangeAt Go.RowKit
open Go.Maps
open Go.WideMaps

def kAmp : List UInt8 := [97, 109, 112]
def kLt : List UInt8 := [108, 116]
def kGt : List UInt8 := [103, 116]
def kQuot : List UInt8 := [113, 117, 111, 116]
def kApos : List UInt8 := [97, 112, 111, 115]
def u8D (n : Int) : DataW Unit := .lit (.int .u8 n)
def namD : DataW Unit := (((((DataW.map []).put (.string kAmp) (u8D 38)).put (.string kLt) (u8D 60)).put (.string kGt) (u8D 62)).put (.string kQuot) (u8D 34)).put (.string kApos) (u8D 39)
theorem namD_eq : namD = .map [(.string kAmp, u8D 38), (.string kApos, u8D 39), (.string kGt, u8D 62), (.string kLt, u8D 60), (.string kQuot, u8D 34)] := by kernel_rfl
/-- The byte that a name means. -/
def nameB (l : List UInt8) : Option Nat := if l = kAmp then some 38 else if l = kApos then some 39 else if l = kGt then some 62 else if l = kLt then some 60 else if l = kQuot then some 34 else none
theorem has_name (l : List UInt8) : Maps.has namD (.string l) = (nameB l).isSome := by
  rw [namD_eq]
  unfold nameB Maps.has
  simp only [List.any_cons, List.any_nil, Lit.sameKey, Bool.or_false]
  by_cases h1 : l = kAmp
  · subst h1; rfl
  · by_cases h2 : l = kApos
    · subst h2; rfl
    · by_cases h3 : l = kGt
      · subst h3; rfl
      · by_cases h4 : l = kLt
        · subst h4; rfl
        · by_cases h5 : l = kQuot
          · subst h5; rfl
          · have ne : ∀ k : List UInt8, ¬ l = k → (k == l) = false := fun k h => by rw [beq_eq_false_iff_ne]; exact fun e => h e.symm
            rw [ne _ h1, ne _ h2, ne _ h3, ne _ h4, ne _ h5, if_neg h1, if_neg h2, if_neg h3, if_neg h4, if_neg h5]
            rfl
theorem at_name (l : List UInt8) (b : Nat) (h : nameB l = some b) : namD.atKey (.string l) (.lit (.int .u8 0)) = .lit (.int .u8 (b : Int)) := by
  rw [namD_eq]
  unfold nameB at h
  unfold DataW.atKey
  by_cases h1 : l = kAmp
  · subst h1; simp at h; subst h; rfl
  · rw [if_neg h1] at h
    by_cases h2 : l = kApos
    · subst h2; simp at h; subst h; rfl
    · rw [if_neg h2] at h
      by_cases h3 : l = kGt
      · subst h3; simp at h; subst h; rfl
      · rw [if_neg h3] at h
        by_cases h4 : l = kLt
        · subst h4; simp at h; subst h; rfl
        · rw [if_neg h4] at h
          by_cases h5 : l = kQuot
          · subst h5; simp at h; subst h; rfl
          · rw [if_neg h5] at h; cases h
/-- The map of names. -/
def Names (w : World) (m : Nat) : Prop := w.ownsMap Try.prog 9 (plainElem (H := Unit) Try.prog 5) m 5 namD
theorem Names.below {w w' : World} {m B : Nat} (h : Names w m) (hm : m < B) (hb : Below B w w') : Names w' m := by
  obtain ⟨es, clock, h1, h2⟩ := h
  exact ⟨es, clock, (hb.block m hm).trans h1, h2⟩
theorem strKeyed : Keyed Try.prog 9 := string_keyed Try.underlying9
set_option maxHeartbeats 1000000 in
theorem newEntityReader_any (s : ByteArray) (w : World) : Calls Try.prog 24 #[.string s] w fun e w' => ∃ g m, e = .returned (.pointer (some ⟨g, 0, none⟩)) ∧ w.heap.size ≤ m ∧ m < g ∧ Names w' m ∧ Rd w' g s 0 (.slice none 0 0) [] (some (.map (some m))) ∧ Below w.heap.size w w' := by
  have hmm := @run_makeMap Try.prog
  have o0 := World.ownsMap_made w Try.prog 9 (plainElem (H := Unit) Try.prog 5)
  have pe : ∀ n : Int, 0 ≤ n → n ≤ 255 → plainElem (H := Unit) Try.prog 5 (.int .u8 n) = some (u8D n, []) := fun n h0 h1 => plainElem_int Try.underlying5 (by simp [Lit.wf, IntKind.min, IntKind.max, IntKind.signed, IntKind.bits]; omega)
  obtain ⟨w1, r1, o1, g1⟩ := o0.update (t := 54) strKeyed Try.underlying54 (by decide) (keyOf_string_mk Try.underlying9 (s := ⟨#[97, 109, 112]⟩) (by decide)) (pe 38 (by decide) (by decide))
  obtain ⟨w2, r2, o2, g2⟩ := o1.update (t := 54) strKeyed Try.underlying54 (by decide) (keyOf_string_mk Try.underlying9 (s := ⟨#[108, 116]⟩) (by decide)) (pe 60 (by decide) (by decide))
  obtain ⟨w3, r3, o3, g3⟩ := o2.update (t := 54) strKeyed Try.underlying54 (by decide) (keyOf_string_mk Try.underlying9 (s := ⟨#[103, 116]⟩) (by decide)) (pe 62 (by decide) (by decide))
  obtain ⟨w4, r4, o4, g4⟩ := o3.update (t := 54) strKeyed Try.underlying54 (by decide) (keyOf_string_mk Try.underlying9 (s := ⟨#[113, 117, 111, 116]⟩) (by decide)) (pe 34 (by decide) (by decide))
  obtain ⟨w5, r5, o5, g5⟩ := o4.update (t := 54) strKeyed Try.underlying54 (by decide) (keyOf_string_mk Try.underlying9 (s := ⟨#[97, 112, 111, 115]⟩) (by decide)) (pe 39 (by decide) (by decide))
  have e0 : (w.alloc (.map #[] 0)).heap.size = w.heap.size + 1 := by simp
  have z1 := g1.size
  have z2 := g2.size
  have z3 := g3.size
  have z4 := g4.size
  have z5 := g5.size
  have bel : ∀ {a b : World}, w.heap.size < a.heap.size → a.grownBy b (some w.heap.size) → Below w.heap.size a b := fun h0 h => ⟨h.os, h.tape, h.output, h.size, fun k hk => h.block k (by omega) (by simp; omega)⟩
  have B5 : Below w.heap.size w w5 := ((((((bel1 w (.map #[] 0)).trans (bel (by omega) g1)).trans (bel (by omega) g2)).trans (bel (by omega) g3)).trans (bel (by omega) g4)).trans (bel (by omega) g5))
  have N5 : Names w5 w.heap.size := o5
  have lt5 : w.heap.size < w5.heap.size := by omega
  clear o0 o1 o2 o3 o4 o5 g1 g2 g3 g4 g5 pe bel e0 z1 z2 z3 z4 z5
  go_enter Try.func24, Try.ntmps24
  go_wp2
  go_ret
  refine ⟨w5.heap.size, w.heap.size, rfl, Nat.le_refl _, lt5, N5.below lt5 (bel1 _ _), ⟨by simp [go_sem], by simp [go_sem], by simp [go_sem], by simp [go_sem], fun o => by simp [go_sem], Buf.nil _ _, by simp⟩, B5.alloc B5.size _⟩
end Go.Proofs.Ythiilkmnbjgoaaa
