/- A cursor's small methods: At, Start, Room, holds, grow, Claim; the document's Room, inside, Claim. -/
import Derived.Test.YtfhphjgcmbneeaaDoorCuA
import Derived.Test.YtfhphjgcmbneeaaDoorPFx
import Derived.WalkSmall
namespace Go.Proofs.YtfhphjgcmbneeaaDoor
open Go.ChangeShapes Go.WideShapes Go.ChangeAt Go.RowKit

theorem dN {w : World} {n : Nat} : Below w.heap.size w (w.drewN n) := below_drewN (Below.refl _ _) n
theorem At_any {w : World} {c g len cap st en : Nat} {hi : Bool} {f : Nat → Int} (h : Cs w c 0 g len cap st en hi f) :
    Calls Tryd.prog 12 #[.pointer (some ⟨c, 0, none⟩)] w fun e w' => e = .returned (.int .i64 en) ∧ w' = w := by
  have c2 := h.to
  go_enter Tryd.func12, Tryd.ntmps12
  go_wp2
  go_ret
  exact ⟨rfl, rfl⟩
theorem Start_any {w : World} {c g len cap st en : Nat} {hi : Bool} {f : Nat → Int} (h : Cs w c 0 g len cap st en hi f) :
    Calls Tryd.prog 13 #[.pointer (some ⟨c, 0, none⟩)] w fun e w' => e = .returned (.int .i64 st) ∧ w' = w := by
  have c1 := h.fro
  go_enter Tryd.func13, Tryd.ntmps13
  go_wp2
  go_ret
  exact ⟨rfl, rfl⟩
theorem Room_any {w : World} {c g len cap st en : Nat} {hi : Bool} {f : Nat → Int} (h : Cs w c 0 g len cap st en hi f) :
    Calls Tryd.prog 20 #[.pointer (some ⟨c, 0, none⟩)] w fun e w' => e = .returned (.int .i64 ((len : Int) - en)) ∧ ∃ m, w' = w.drewN m := by
  have c0 := h.buf
  have c2 := h.to
  have := h.h2
  have := h.h4
  go_enter Tryd.func20, Tryd.ntmps20
  go_wp2_with fail
  go_quiet (fail)
  go_wp2_with fail
  go_ret
  exact ⟨rfl, _, rfl⟩
theorem holds_any {w : World} {c g len cap st en : Nat} {hi : Bool} {f : Nat → Int} (h : Cs w c 0 g len cap st en hi f) (at' n : Int) (h0 : 0 ≤ n) (h1 : n ≤ 9223372036854775807) :
    Calls Tryd.prog 28 #[.pointer (some ⟨c, 0, none⟩), .int .i64 at', .int .i64 n] w fun e w' => e = .returned (.bool (inC st en at' n)) ∧ w' = w := by
  have c1 := h.fro
  have c2 := h.to
  have := h.h2
  have := h.h4
  by_cases hs : (st : Int) ≤ at'
  · have e : inC st en at' n = decide (at' ≤ (en : Int) - n) := by unfold inC; exact decide_eq_decide.2 (by omega)
    rw [e]
    clear e
    go_enter Tryd.func28, Tryd.ntmps28
    go_wp2
    go_ret
    exact ⟨rfl, rfl⟩
  · rw [inC_no (by omega)]
    have hd : decide ((st : Int) ≤ at') = false := decide_eq_false hs
    go_enter Tryd.func28, Tryd.ntmps28
    go_wp2
    go_ret
    exact ⟨rfl, rfl⟩
theorem grow_any {w : World} {c g len cap st en : Nat} {hi : Bool} {f : Nat → Int} (h : Cs w c 0 g len cap st en hi f) (n : Nat) (hn : en + n ≤ len) :
    Calls Tryd.prog 25 #[.pointer (some ⟨c, 0, none⟩), .int .i64 n] w fun e w' => e = .returned (.int .i64 en) ∧ Cs w' c 0 g len cap st (en + n) hi f ∧ Cb c 0 g w w' := by
  have c2 := h.to
  have f2 := h.frz
  have := h.h2
  have := h.h4
  have := h.lt
  have M := h.moved (en + n) (by have := h.h1; omega) hn
  have e : ((en + n : Nat) : Int) = (en : Int) + (n : Int) := by omega
  rw [e] at M
  clear h
  go_enter Tryd.func25, Tryd.ntmps25
  go_wp2
  go_ret
  exact ⟨rfl, M⟩
theorem Claim_any {w : World} {c g len cap st en : Nat} {hi : Bool} {f : Nat → Int} (h : Cs w c 0 g len cap st en hi f) (n : Int) :
    Calls Tryd.prog 8 #[.pointer (some ⟨c, 0, none⟩), .int .i64 n] w fun e w' => e = .returned (.tuple #[.int .i64 (clP len en n), .int .i64 (clE len en n)]) ∧ Cs w' c 0 g len cap st (clN len en n) hi f ∧ Cb c 0 g w w' := by
  have h2 := h.h2
  have h4 := h.h4
  unfold clP clN
  rcases clE_cases len en n with ⟨e, hn⟩ | ⟨e, hn, hr⟩ | ⟨e, hn, hr⟩
  · rw [e]
    have H : Hid (Cs w c 0 g len cap st en hi f) := h
    clear h e
    go_enter Tryd.func8, Tryd.ntmps8
    go_wp2
    go_ret2
    exact ⟨rfl, H.out, Cb.refl _ _ _ _⟩
  · rw [e]
    have H : Hid (Cs w c 0 g len cap st en hi f) := h
    have R := Room_any h
    clear h e
    go_enter Tryd.func8, Tryd.ntmps8
    go_wp2_with (go_at_call 20; refine R.mono ?_; rintro e w1 ⟨rfl, m, rfl⟩)
    go_ret2
    exact ⟨rfl, H.out.below dN, Cb.of_below dN H.out.lt⟩
  · rw [e]
    obtain ⟨m, rfl⟩ : ∃ m : Nat, n = m := ⟨n.toNat, by omega⟩
    have R := Room_any h
    have G := fun n => grow_any (h.below (dN (n := n))) m (by omega)
    have hB := fun n => Cb.of_below (o := 0) (g := g) (dN (w := w) (n := n)) h.lt
    clear h e
    go_enter Tryd.func8, Tryd.ntmps8
    go_wp2_with (first
      | (go_at_call 20; refine R.mono ?_; rintro e w1 ⟨rfl, m1, rfl⟩)
      | (go_at_call 25; refine (G _).mono ?_; rintro e w2 ⟨rfl, G1, G2⟩))
    go_ret2
    exact ⟨rfl, G1, (hB _).trans G2⟩
end Go.Proofs.YtfhphjgcmbneeaaDoor
