/- Good spots. -/
import Derived.Test.YtfhphjgcmbneeaaDoorCuD
namespace Go.Proofs.YtfhphjgcmbneeaaDoor
open Go.ChangeShapes Go.WideShapes Go.ChangeAt Go.RowKit

theorem isGood_any (size p off : Int) (w : World) (kt : KT w) (h1 : 1 ≤ size) (h2 : size ≤ 65535) :
    Calls Tryd.prog 69 #[.agg #[.int .i64 p, .int .i64 off], .int .i64 size] w fun e w' => e = .returned (.bool (goodB size p off)) ∧ Below w.heap.size w w' := by
  have S := fun W hW => size_any p W (kt.below (w' := W) kt.pos hW)
  have hsz := sz_cases p
  have hw : IntKind.i64.wrap (size - sz p) = size - sz p := by rw [IntKind.wrap_i64]; omega
  by_cases hp : p = 5 ∨ p = 6 ∨ p = 7
  · by_cases h0 : 0 ≤ off
    · have e : goodB size p off = decide (off ≤ size - sz p) := by unfold goodB; exact decide_eq_decide.2 (by omega)
      rw [e]
      clear e
      have hd : decide (0 ≤ off) = true := decide_eq_true h0
      have hq : (p == 5) = true ∨ ((p == 5) = false ∧ (p == 6) = true) ∨ ((p == 5) = false ∧ (p == 6) = false ∧ (p == 7) = true) := by rcases hp with rfl | rfl | rfl <;> simp
      clear hp
      rcases hq with d5 | ⟨d5, d6⟩ | ⟨d5, d6, d7⟩
      all_goals
        go_enter Tryd.func69, Tryd.ntmps69
        go_wp2_with fail
        go_region_held3 (fun X => X.cell? ⟨w.heap.size, 0, none⟩ = some (.int .i64 p) ∧ X.cell? ⟨w.heap.size, 1, none⟩ = some (.int .i64 off)) (first | assumption | (refine ⟨?_, ?_⟩ <;> assumption) | go_keep) (first
          | (go_at_call 26; refine (S _ (bel1 _ _).drew).mono ?_; rintro _ w3 ⟨rfl, hb3⟩; have B0 := hb3.cell (p := ⟨w.heap.size, 0, none⟩) (by simp); have B1 := hb3.cell (p := ⟨w.heap.size, 1, none⟩) (by simp)))
        all_goals
          go_wp2_with fail
          go_ret
          exact ⟨rfl, (bel1 _ _).drew.trans (hb3.mono (by simp))⟩
    · have e : goodB size p off = false := by unfold goodB; exact decide_eq_false (by omega)
      rw [e]
      clear e
      have hd : decide (0 ≤ off) = false := decide_eq_false h0
      have hq : (p == 5) = true ∨ ((p == 5) = false ∧ (p == 6) = true) ∨ ((p == 5) = false ∧ (p == 6) = false ∧ (p == 7) = true) := by rcases hp with rfl | rfl | rfl <;> simp
      clear hp
      rcases hq with d5 | ⟨d5, d6⟩ | ⟨d5, d6, d7⟩
      all_goals
        go_enter Tryd.func69, Tryd.ntmps69
        go_wp2_with fail
        go_quiet (fail)
        go_wp2_with fail
        go_ret
        exact ⟨rfl, below_drewN (bel1 _ _) _⟩
  · have e : goodB size p off = false := by unfold goodB; exact decide_eq_false (by omega)
    rw [e]
    clear e
    have d5 : (p == 5) = false := by simp; omega
    have d6 : (p == 6) = false := by simp; omega
    have d7 : (p == 7) = false := by simp; omega
    go_enter Tryd.func69, Tryd.ntmps69
    go_wp2_with fail
    go_ret
    exact ⟨rfl, bel1 _ _⟩
/-- Spots in a row of their own. -/
structure SpRow (w : World) (b : Nat) (l : List (Int × Int)) : Prop where
  lt : b < w.heap.size
  p : ∀ i s, l[i]? = some s → w.cell? ⟨b, i * 2, none⟩ = some (.int .i64 s.1)
  o : ∀ i s, l[i]? = some s → w.cell? ⟨b, i * 2 + 1, none⟩ = some (.int .i64 s.2)
theorem SpRow.below {w w' : World} {b : Nat} {l : List (Int × Int)} (h : SpRow w b l) (hb : Below w.heap.size w w') : SpRow w' b l :=
  ⟨Nat.lt_of_lt_of_le h.lt hb.size, fun i s hs => (hb.cell (p := ⟨b, i * 2, none⟩) h.lt).trans (h.p i s hs), fun i s hs => (hb.cell (p := ⟨b, i * 2 + 1, none⟩) h.lt).trans (h.o i s hs)⟩
set_option maxHeartbeats 1000000 in
theorem areGood_any (size : Int) (b cap : Nat) (l : List (Int × Int)) (w : World) (kt : KT w) (h : SpRow w b l) (hl : l.length ≤ 4) :
    Calls Tryd.prog 49 #[.int .i64 size, .slice (some ⟨b, 0, none⟩) l.length cap] w fun e w' => e = .returned (.bool (goods size l)) ∧ Below w.heap.size w w' := by
  by_cases hs : 1 ≤ size ∧ size ≤ 65535
  · have e : goods size l = l.all fun s => goodB size s.1 s.2 := by unfold goods; rw [decide_eq_true hs]; rfl
    rw [e]
    clear e
    obtain ⟨h1, h2⟩ := hs
    have H : Hid (SpRow w b l) := h
    have K : Hid (KT w) := kt
    clear h kt
    go_enter Tryd.func49, Tryd.ntmps49
    go_wp2_with fail
    go_loopw [15] (fun i wr => ∃ k : Nat, k ≤ l.length ∧ i = .int .i64 k ∧ Below w.heap.size w wr ∧ (l.take k).all (fun s => goodB size s.1 s.2) = true) (fun i _ => l.length - (intOf i).toNat)
    case atStart => exact ⟨0, Nat.zero_le _, rfl, Below.refl _ _, rfl⟩
    case round =>
      obtain ⟨k, hk, rfl, HB, HG⟩ := hrel
      by_cases hlt : k < l.length
      · obtain ⟨s, hs⟩ : ∃ s, l[k]? = some s := ⟨l[k], List.getElem?_eq_getElem hlt⟩
        have c0 := (H.out.below HB).p k s hs
        have c1 := (H.out.below HB).o k s hs
        have hlt' : (k : Int) < (l.length : Int) := by omega
        have G := fun W (hW : Below w.heap.size w W) => isGood_any size s.1 s.2 W (K.out.below K.out.pos hW) h1 h2
        have T : Hid ((l.take (k + 1)).all (fun s => goodB size s.1 s.2) = goodB size s.1 s.2) := by
          show (l.take (k + 1)).all (fun s => goodB size s.1 s.2) = goodB size s.1 s.2
          rw [List.take_add_one, List.all_append, HG, hs]
          simp
        have A : Hid (goodB size s.1 s.2 = false → l.all (fun s => goodB size s.1 s.2) = false) := fun e => by
          rw [Bool.eq_false_iff]
          intro e2
          have := List.all_eq_true.1 e2 s (List.mem_of_getElem? hs)
          rw [e] at this
          cases this
        cases hg : goodB size s.1 s.2 with
        | true =>
          rw [hg] at G T
          clear hg A HG hs
          go_wp2_with (go_at_call 69; refine (G _ (HB.alloc HB.size _)).mono ?_; rintro e wc ⟨rfl, hbl⟩)
          go_roundw
          case rel => exact ⟨k + 1, by omega, by go_num, (HB.alloc HB.size _).trans (hbl.mono (HB.alloc HB.size _).size), T.out⟩
          case measure => simp [intOf]; omega
        | false =>
          rw [hg] at G
          have A2 : Hid (l.all (fun s => goodB size s.1 s.2) = false) := A.out hg
          clear hg T A HG hs
          go_wp2_with (go_at_call 69; refine (G _ (HB.alloc HB.size _)).mono ?_; rintro e wc ⟨rfl, hbl⟩)
          go_ret
          exact ⟨ret_bool A2.out.symm, (HB.alloc HB.size _).trans (hbl.mono (HB.alloc HB.size _).size)⟩
      · obtain rfl : k = l.length := by omega
        rw [List.take_length] at HG
        replace HG : Hid _ := HG
        go_wp2
        go_ret
        exact ⟨ret_bool HG.out.symm, HB⟩
  · have e : goods size l = false := by unfold goods; rw [decide_eq_false hs]; rfl
    rw [e]
    clear e h
    by_cases h1 : size < 1
    · go_enter Tryd.func49, Tryd.ntmps49
      go_wp2_with fail
      go_ret
      exact ⟨rfl, Below.refl _ _⟩
    · have h2 : 65535 < size := by omega
      go_enter Tryd.func49, Tryd.ntmps49
      go_wp2_with fail
      go_ret
      exact ⟨rfl, Below.refl _ _⟩
end Go.Proofs.YtfhphjgcmbneeaaDoor
