/- Are two forms the same: the program's Same. -/
import Derived.Test.YtgobecedammlgaaJMem
namespace Go.Proofs.Ytgobecedammlgaa
open Go.ChangeShapes Go.WideShapes Go.ChangeAt Go.RowKit

theorem beqT {a b : Int} (h : a = b) : (a == b) = true := by simp [h]
theorem beqF {a b : Int} (h : ¬ a = b) : (a == b) = false := beq_eq_false_iff_ne.2 h
abbrev tkO (t : Tk) (pc : Option Addr) (cc : Nat) : Obj := .cells (tkC t pc cc).toArray 38
/-- The answer to a question. -/
def Ans (r : Ending) (P : Prop) : Prop := ∃ b, r = .returned (.bool b) ∧ (b = true ↔ P)
theorem Ans.yes {P : Prop} (h : P) : Ans (.returned (.bool true)) P := ⟨true, rfl, by simp [h]⟩
theorem Ans.no {P : Prop} (h : ¬ P) : Ans (.returned (.bool false)) P := ⟨false, rfl, by simp [h]⟩
theorem two_b (w : World) (A B : Obj) : Below w.heap.size w ((w.alloc A).alloc B) := (bel1 w A).alloc (by simp) B
set_option maxRecDepth 20000 in
theorem samePlace_any (t u : Tk) (p1 p2 : Option Addr) (c1 c2 : Nat) (w : World) : Calls Try.prog 11 #[tkV t p1 c1, tkV u p2 c2] w fun r w' => Ans r (t.off = u.off ∧ t.siz = u.siz ∧ t.blk = u.blk ∧ t.full = u.full ∧ t.a = u.a ∧ t.b = u.b) ∧ Below w.heap.size w w' := by
  obtain ⟨op1, nm1, id1, of1, sz1, si1, pr1, ln1, ps1, nu1, lo1, hi1, cs1, vl1, bk1, fl1, ⟨ap1, ao1⟩, ⟨bp1, bo1⟩, pa1⟩ := t
  obtain ⟨op2, nm2, id2, of2, sz2, si2, pr2, ln2, ps2, nu2, lo2, hi2, cs2, vl2, bk2, fl2, ⟨ap2, ao2⟩, ⟨bp2, bo2⟩, pa2⟩ := u
  simp only [tkV]
  go_enter Try.func11, Try.ntmps11
  go_wp2_with fail
  all_goals (go_ret; refine ⟨⟨_, rfl, ?_⟩, two_b _ _ _⟩; simp [*])
theorem bdN {B : Nat} {a w : World} (h : Below B a w) (n : Nat) : Below B a (w.drewN n) := ⟨h.os, h.tape, h.output, h.size, h.block⟩
theorem drop_at {α : Type} {l : List α} {j : Nat} {a : α} (h : l[j]? = some a) : l.drop j = a :: l.drop (j + 1) := by
  obtain ⟨h1, h2⟩ := List.getElem?_eq_some_iff.1 h
  rw [List.drop_eq_getElem_cons h1, h2]
set_option maxRecDepth 20000 in
set_option maxHeartbeats 4000000 in
theorem equal_any (l m : List Int) (p q : Option Addr) (c d : Nat) (w : World) (hl : URow w p w.heap.size l) (hm : URow w q w.heap.size m) (hs : l.length * 8 ≤ 140737488355328) :
    Calls Try.prog 13 #[.slice p l.length c, .slice q m.length d] w fun r w' => Ans r (l = m) ∧ Below w.heap.size w w' := by
  by_cases hlm : l.length = m.length
  · have b1 : ((l.length : Int) != (m.length : Int)) = false := by simp [hlm]
    have HL : Hid (l.length = m.length) := ⟨hlm⟩
    clear hlm
    go_enter Try.func13, Try.ntmps13
    go_wp2_with fail
    clear b1
    go_loopw [5, 13] (fun i5 i wr => ∃ j : Nat, j ≤ l.length ∧ i = .int .i64 j ∧ Below w.heap.size w wr ∧ Hid (l = m ↔ l.drop j = m.drop j) ∧ i5 = i5) (fun _ i _ => l.length - (RowKit.intOf i).toNat)
    case atStart => exact ⟨0, Nat.zero_le _, rfl, Below.refl _ _, ⟨Iff.rfl⟩, rfl⟩
    case round =>
      obtain ⟨j, hj, rfl, hB, hq, -⟩ := hrel
      by_cases hlt : j < l.length
      · obtain ⟨a, hx⟩ : ∃ a, l[j]? = some a := ⟨l[j], List.getElem?_eq_getElem hlt⟩
        obtain ⟨b, hy⟩ : ∃ b, m[j]? = some b := ⟨m[j]'(by have := HL.out; omega), List.getElem?_eq_getElem (by have := HL.out; omega)⟩
        obtain ⟨g, o, rfl, hg, q0⟩ := hl.c j a hx
        obtain ⟨g2, o2, rfl, hg2, k0⟩ := hm.c j b hy
        replace q0 := (hB.cell (p := ⟨g, _, none⟩) hg).trans q0
        replace k0 := (hB.cell (p := ⟨g2, _, none⟩) hg2).trans k0
        have hlti : (j : Int) < l.length := by omega
        have hltm : (j : Int) < m.length := by have := HL.out; omega
        have hd : Hid (l = m ↔ a = b ∧ l.drop (j + 1) = m.drop (j + 1)) := ⟨by rw [hq.out, drop_at hx, drop_at hy, List.cons.injEq]⟩
        clear hq hx hy
        by_cases hab : a = b
        · have z : (a != b) = false := by simp [hab]
          have HX : Hid (l = m ↔ l.drop (j + 1) = m.drop (j + 1)) := ⟨by rw [hd.out]; simp [hab]⟩
          clear hab hd
          go_wp2_with fail
          go_quiet (fail)
          go_wp2_with fail
          go_roundw
          case rel => exact ⟨j + 1, by omega, by go_num, bdN hB _, HX, trivial⟩
          case measure => simp [RowKit.intOf]; omega
        · have z : (a != b) = true := by simp [hab]
          have HX : Hid (¬ l = m) := ⟨by rw [hd.out]; simp [hab]⟩
          clear hab hd
          go_wp2_with fail
          go_quiet (fail)
          go_wp2_with fail
          go_ret
          exact ⟨Ans.no HX.out, bdN hB _⟩
      · obtain rfl : j = l.length := by omega
        have HX : Hid (l = m) := ⟨by rw [hq.out, List.drop_length, HL.out, List.drop_length]⟩
        clear hq
        go_wp2_with fail
        go_ret
        exact ⟨Ans.yes HX.out, hB⟩
  · have b1 : ((l.length : Int) != (m.length : Int)) = true := by simp; omega
    have HX : Hid (¬ l = m) := ⟨fun e => hlm (by rw [e])⟩
    clear hlm
    go_enter Try.func13, Try.ntmps13
    go_wp2_with fail
    go_ret
    exact ⟨Ans.no HX.out, Below.refl _ _⟩
end Go.Proofs.Ytgobecedammlgaa
