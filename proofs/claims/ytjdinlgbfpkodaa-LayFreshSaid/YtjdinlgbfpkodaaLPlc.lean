/- The law LayPlaces. -/
import Derived.Test.YtjdinlgbfpkodaaLRef
import Derived.Test.YtjdinlgbfpkodaaLArg
namespace Go.Proofs.Ytjdinlgbfpkodaa
open Go.ChangeShapes Go.WideShapes Go.ChangeAt Go.RowKit Go.Shelf

theorem fillR_len {k : Nat} : ∀ (l : List Rm) (s : St) (i : Nat) (s' : St), fillR k l s i = .ok s' → StOk s i → StOk s' (i + l.length)
  | [], s, i, s', h, hs => by cases h; exact hs
  | x :: r, s, i, s', h, hs => by
    simp only [fillR] at h
    split at h
    · rename_i hE
      have := fillR_len r _ _ _ h (hs.stp k hE)
      rw [List.length_cons]
      rw [show i + (r.length + 1) = i + 1 + r.length by omega]
      exact this
    · cases h
theorem stOk0 : StOk s0 0 := ⟨by decide, by decide, Nat.le_refl _, Nat.le_refl _⟩
theorem placeZ_len (l : List Rm) (b : Int) : (placeZ l b).off.length ≤ l.length := by
  by_cases hb : blkErr b = 0
  · cases hf : fillR 0 l s0 0 with
    | error p => rw [placeZ_err (er := p.1) (j := p.2) hb (by rw [hf])]; exact Nat.zero_le _
    | ok s =>
      rw [placeZ_ok hb hf]
      have := (fillR_len l s0 0 s hf stOk0).o
      split
      · exact Nat.zero_le _
      · show s.off.length ≤ _; omega
  · rw [placeZ_blk hb]; exact Nat.zero_le _
set_option maxRecDepth 100000 in
set_option maxHeartbeats 4000000 in
theorem LayPlaces_any (l : List Rm) (pp : Option Addr) (cp : Nat) (b : Int) (w : World) (hr : SlR w pp w.heap.size l) (hl : l.length ≤ 8796093021952) (hx : ∀ x ∈ l, x.ok) :
    Calls Try.prog 4 #[.slice pp l.length cp, .int .i64 b] w fun r w' => r = .returned (.bool true) ∧ Below w.heap.size w w' := by
  have c1 := refPlace_any l pp cp b w hr hl hx
  have hzl := placeZ_len l b
  have c3 := fun (W : World) p c (h : SlR W p W.heap.size l) => Place_any l p c b W h hl hx
  generalize placeZ l b = Z at c1 c3 hzl
  obtain ⟨off, n, er, who⟩ := Z
  dsimp only at c1 c3 hzl
  have F1 : Hid (1 = 1) := ⟨rfl⟩
  go_enter Try.func4, Try.ntmps4
  go_wp2_with (first
    | (go_at_call 15; refine c1.mono ?_; rintro _ w1 ⟨va, rfl, hO1, hB1⟩; obtain ⟨pa, ca, rfl, hZ1⟩ := hO1.sl; have c2 := rooms_any l pp cp w1 (hr.up hB1) hl)
    | (go_at_call 11; refine c2.mono ?_; rintro _ w2 ⟨vo, rfl, hO2, hB2⟩; obtain ⟨po, co, rfl, hZ2⟩ := hO2.sl; have c4 := c3 w2 po co hZ2)
    | (go_at_call 10; refine c4.mono ?_; rintro _ w3 ⟨vb, rfl, hO3, hB3⟩; obtain ⟨pb, cb, rfl, hZ3⟩ := hO3.sl; have c5 := sameInts_self off pa pb ca cb w3 ((hZ1.up hB2).up hB3).row hZ3.row (by omega))
    | (go_at_call 16; refine c5.mono ?_; rintro _ _ ⟨rfl, n5, rfl⟩)
    | (go_at_call 12; refine (num_any _ _).mono ?_; rintro _ _ ⟨rfl, rfl⟩)
    | (go_at_call 18; refine (ints_any [] none 0 (w3.drewN n5) ⟨ZRow.nil _ _ _⟩ (by decide)).mono ?_; rintro _ w6 ⟨vi, rfl, hO6, hB6⟩; obtain ⟨pi, ci, rfl, _⟩ := hO6.sl)
    | (go_at_call 17; refine (kept_any l [] _ _ pp none cp 0 _ _ w6 ((hO2.below hB3).below ((tdr (Below.refl _ w3)).trans hB6)) hO6 ((((hr.up hB1).up hB2).up hB3).up ((tdr (Below.refl _ w3)).trans hB6)) ⟨ZRow.nil _ _ _⟩ hl (by decide)).mono ?_; rintro _ _ ⟨rfl, n7, rfl⟩))
  go_ret
  exact ⟨rfl, tdr (hB1.trans ((hB2.mono hB1.size).trans ((hB3.mono (Nat.le_trans hB1.size hB2.size)).trans ((tdr (Below.refl _ w3)).trans (hB6.mono (by have := hB1.size; have := hB2.size; have := hB3.size; show w.heap.size ≤ w3.heap.size; omega))))))⟩
end Go.Proofs.Ytjdinlgbfpkodaa
