/- The document's answer: does a text end as a declaration. -/
import Derived.Test.YtchfphakhmifmabGreatDoorXB3
namespace Go.Proofs.YtchfphakhmifmabGreatDoor
open Go.ChangeShapes Go.WideShapes Go.ChangeAt Go.RowKit Go.Shelf Go.Lib

theorem saidZ_le (s : ByteArray) (a : Nat) (nm : ByteArray) (ha : a ≤ s.size) : (saidZ s a nm).2.2 ≤ s.size := by
  unfold saidZ
  split
  · split
    · split
      · split
        · rename_i h; exact h
        · exact ha
      · exact ha
    · exact ha
  · exact ha
theorem saidZ_size (s : ByteArray) (a : Nat) (nm : ByteArray) : (saidZ s a nm).1.size ≤ s.size := by
  unfold saidZ
  split
  · split
    · split
      · split
        · exact ext_size_le _ _ _
        · exact Nat.zero_le _
      · exact Nat.zero_le _
    · exact Nat.zero_le _
  · exact Nat.zero_le _
abbrev nVER : ByteArray := ⟨#[118, 101, 114, 115, 105, 111, 110]⟩
abbrev nENC : ByteArray := ⟨#[101, 110, 99, 111, 100, 105, 110, 103]⟩
abbrev nSTA : ByteArray := ⟨#[115, 116, 97, 110, 100, 97, 108, 111, 110, 101]⟩
def z1 (s : ByteArray) (a : Nat) := saidZ s a nVER
def z2 (s : ByteArray) (a : Nat) := saidZ s (z1 s a).2.2 nENC
def z3 (s : ByteArray) (a : Nat) := saidZ s (z2 s a).2.2 nSTA
/-- The place of the end of the declaration; -1: it is none. -/
def dclF (b1 x1 b2 x2 b3 x3 x4 h : Bool) (p : Nat) : Int := if b1 && x1 && (!b2 || x2) && (!b3 || x3 || x4) && h then (p : Int) else -1
def dclZ (s : ByteArray) (a : Nat) : Int :=
  dclF (z1 s a).2.1 (decide ((z1 s a).1 = ⟨#[49, 46, 48]⟩)) (z2 s a).2.1 (decide (lowB (z2 s a).1 = ⟨#[117, 116, 102, 45, 56]⟩)) (z3 s a).2.1 (decide ((z3 s a).1 = ⟨#[121, 101, 115]⟩)) (decide ((z3 s a).1 = ⟨#[110, 111]⟩)) (hasN s (skN s (z3 s a).2.2) ⟨#[63, 62]⟩) (skN s (z3 s a).2.2)
abbrev rdP (s : ByteArray) (a : Nat) : Obj := .cells #[.string s, .int .i64 (a : Int), .slice none 0 0, .int .i64 0, .int .i64 0] 103
theorem RA.newP (w : World) (s : ByteArray) (a : Nat) : RA (w.alloc (rdP s a)) w.heap.size s a := by
  have hh : (w.alloc (rdP s a)).heap[w.heap.size]? = some (rdP s a) := by
    show (w.heap.push _)[w.heap.size]? = _
    rw [Array.getElem?_push, if_pos rfl]
  exact ⟨by simp only [World.cell?, hh]; rfl, by simp only [World.cell?, hh]; rfl, fun o => by simp only [World.frozen?, hh]; simp, by rw [World.size_alloc]; omega⟩
set_option maxRecDepth 100000 in
set_option maxHeartbeats 16000000 in
theorem rdcl_core (s : ByteArray) (a : Nat) (w : World) (v1 v2 v3 l2 : ByteArray) (b1 b2 b3 x1 x2 x3 x4 h : Bool) (p1 p2 p3 p : Nat)
    (e1 : (v1.toList == [49, 46, 48]) = x1) (e2 : (l2.toList == [117, 116, 102, 45, 56]) = x2) (e3 : (v3.toList == [121, 101, 115]) = x3) (e4 : (v3.toList == [110, 111]) = x4)
    (C1 : ∀ w1, RA w1 w.heap.size s a → Calls Tryz.prog 131 #[.pointer (some ⟨w.heap.size, 0, none⟩), .string nVER] w1 fun e w' => e = .returned (.tuple #[.string v1, .bool b1]) ∧ Mv w.heap.size w1 w' ∧ RA w' w.heap.size s p1)
    (C2 : ∀ w1, RA w1 w.heap.size s p1 → Calls Tryz.prog 131 #[.pointer (some ⟨w.heap.size, 0, none⟩), .string nENC] w1 fun e w' => e = .returned (.tuple #[.string v2, .bool b2]) ∧ Mv w.heap.size w1 w' ∧ RA w' w.heap.size s p2)
    (C3 : ∀ w1, RA w1 w.heap.size s p2 → Calls Tryz.prog 131 #[.pointer (some ⟨w.heap.size, 0, none⟩), .string nSTA] w1 fun e w' => e = .returned (.tuple #[.string v3, .bool b3]) ∧ Mv w.heap.size w1 w' ∧ RA w' w.heap.size s p3)
    (L : ∀ w1, Calls Tryz.prog 132 #[.string v2] w1 fun e w' => e = .returned (.string l2) ∧ Below w1.heap.size w1 w')
    (B : ∀ w1, RA w1 w.heap.size s p3 → Calls Tryz.prog 129 #[.pointer (some ⟨w.heap.size, 0, none⟩)] w1 fun e w' => e = .returned (.int .i64 ((p - p3 : Nat) : Int)) ∧ Mv w.heap.size w1 w' ∧ RA w' w.heap.size s p)
    (H : ∀ w1, RA w1 w.heap.size s p → Calls Tryz.prog 98 #[.pointer (some ⟨w.heap.size, 0, none⟩), .string ⟨#[63, 62]⟩] w1 fun e w' => e = .returned (.bool h) ∧ Mv w.heap.size w1 w' ∧ RA w' w.heap.size s p) :
    Calls Tryz.prog 99 #[.string s, .int .i64 (a : Int)] w fun e w' => e = .returned (.int .i64 (dclF b1 x1 b2 x2 b3 x3 x4 h p)) ∧ Below w.heap.size w w' := by
  have HA := RA.newP w s a
  have HM := Mv.refl w.heap.size (w.alloc (rdP s a))
  have key : b1 = false ∨ (b1 = true ∧ x1 = false) ∨ (b1 = true ∧ x1 = true ∧ b2 = true ∧ x2 = false) ∨ ((b1 = true ∧ x1 = true ∧ (b2 = false ∨ (b2 = true ∧ x2 = true))) ∧ ((b3 = true ∧ x3 = false ∧ x4 = false) ∨ ((b3 = false ∨ (b3 = true ∧ x3 = true) ∨ (b3 = true ∧ x3 = false ∧ x4 = true)) ∧ (h = false ∨ h = true)))) := by
    cases b1 <;> cases x1 <;> cases b2 <;> cases x2 <;> cases b3 <;> cases x3 <;> cases x4 <;> cases h <;> simp
  rcases key with rfl | ⟨rfl, rfl⟩ | ⟨rfl, rfl, rfl, rfl⟩ | ⟨⟨rfl, rfl, rfl | ⟨rfl, rfl⟩⟩, ⟨rfl, rfl, rfl⟩ | ⟨rfl | ⟨rfl, rfl⟩ | ⟨rfl, rfl, rfl⟩, rfl | rfl⟩⟩
  all_goals
    unfold dclF
    simp only [Bool.false_and, Bool.and_false, Bool.and_true, Bool.not_true, Bool.not_false, Bool.or_false, Bool.true_or, Bool.or_true, if_true, Bool.false_eq_true, if_false]
    go_enter Tryz.func99, Tryz.ntmps99
    go_wp2_with (first
      | (go_at_call_of 131 (Value.string ⟨#[118, 101, 114, 115, 105, 111, 110]⟩); refine (C1 _ HA).mono ?_; clear C1; rintro e w1 ⟨rfl, hM, hA⟩; replace HM := HM.trans hM; replace HA := hA; have g1 := hA.h1)
      | (go_at_call_of 131 (Value.string ⟨#[101, 110, 99, 111, 100, 105, 110, 103]⟩); refine (C2 _ HA).mono ?_; clear C2; rintro e w1 ⟨rfl, hM, hA⟩; replace HM := HM.trans hM; replace HA := hA; have g1 := hA.h1)
      | (go_at_call_of 131 (Value.string ⟨#[115, 116, 97, 110, 100, 97, 108, 111, 110, 101]⟩); refine (C3 _ HA).mono ?_; clear C3; rintro e w1 ⟨rfl, hM, hA⟩; replace HM := HM.trans hM; replace HA := hA; have g1 := hA.h1)
      | (go_at_call 132; refine (L _).mono ?_; clear L; rintro e w1 ⟨rfl, hM⟩; replace HM := HM.trans (Mv.of hM HA.lt); replace HA := HA.below hM; have g1 := HA.h1)
      | (go_at_call 129; refine (B _ HA).mono ?_; clear B; rintro e w1 ⟨rfl, hM, hA⟩; replace HM := HM.trans hM; replace HA := hA; have g1 := hA.h1)
      | (go_at_call 98; refine (H _ HA).mono ?_; clear H; rintro e w1 ⟨rfl, hM, hA⟩; replace HM := HM.trans hM; replace HA := hA; have g1 := hA.h1))
    go_ret
    exact ⟨rfl, (bel1 w (rdP s a)).trans (HM.but.below (Nat.le_refl _) (by rw [World.size_alloc]; omega))⟩
theorem rDeclared (s : ByteArray) (a : Nat) (w : World) (ha : a ≤ s.size) (hs : s.size ≤ 4611686018427387904) :
    Calls Tryz.prog 99 #[.string s, .int .i64 (a : Int)] w fun e w' => e = .returned (.int .i64 (dclZ s a)) ∧ Below w.heap.size w w' := by
  have l1 : (z1 s a).2.2 ≤ s.size := saidZ_le _ _ _ ha
  have l2 : (z2 s a).2.2 ≤ s.size := saidZ_le _ _ _ l1
  have l3 : (z3 s a).2.2 ≤ s.size := saidZ_le _ _ _ l2
  have l4 : (z2 s a).1.size ≤ s.size := saidZ_size _ _ _
  have e1 := str_beq (z1 s a).1 ⟨#[49, 46, 48]⟩
  have e2 := str_beq (lowB (z2 s a).1) ⟨#[117, 116, 102, 45, 56]⟩
  have e3 := str_beq (z3 s a).1 ⟨#[121, 101, 115]⟩
  have e4 := str_beq (z3 s a).1 ⟨#[110, 111]⟩
  rw [ByteArray.toList_eq ⟨#[49, 46, 48]⟩] at e1
  rw [ByteArray.toList_eq ⟨#[117, 116, 102, 45, 56]⟩] at e2
  rw [ByteArray.toList_eq ⟨#[121, 101, 115]⟩] at e3
  rw [ByteArray.toList_eq ⟨#[110, 111]⟩] at e4
  exact rdcl_core s a w _ _ _ _ _ _ _ _ _ _ _ _ _ _ _ _ e1 e2 e3 e4 (fun w1 h => rsaid _ s a nVER w1 h ha hs (by decide)) (fun w1 h => rsaid _ s _ nENC w1 h l1 hs (by decide)) (fun w1 h => rsaid _ s _ nSTA w1 h l2 hs (by decide))
    (fun w1 => rlower _ w1 (Nat.le_trans l4 hs)) (fun w1 h => rblanks _ s _ w1 h l3 (by omega)) (fun w1 h => rhas _ s _ ⟨#[63, 62]⟩ w1 h (skN_le s _ l3).2 hs (by decide))
end Go.Proofs.YtchfphakhmifmabGreatDoor
