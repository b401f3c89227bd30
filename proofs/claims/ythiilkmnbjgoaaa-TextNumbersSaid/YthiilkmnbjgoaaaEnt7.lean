/- The contracts of numeric entities. -/
import Derived.Test.YthiilkmnbjgoaaaEnt6
import Derived.Test.YthiilkmnbjgoaaaFault
namespace Go.Proofs.Ythiilkmnbjgoaaa
open Go.ChangeShapes Go.WideShapes Go.ChangeAt Go.RowKit

theorem Buf.some {w : World} {B : Nat} {v : Value} {L : List Nat} (h : Buf w B v L) (hne : L ≠ []) : ∃ g c, v = .slice (some ⟨g, 0, none⟩) L.length c ∧ B ≤ g ∧ (∀ j u, (L.map cU)[j]? = Option.some u → w.cell? ((⟨g, 0, none⟩ : Addr).add j) = Option.some u) := by
  rcases h.2 with ⟨_, h0⟩ | ⟨g, cap, cur, rfl, hb, _⟩
  · exact absurd (List.length_eq_zero_iff.1 h0) hne
  · exact ⟨g, cap, rfl, hb, World.ownsRow.cells h (g := g) rfl⟩
theorem encN_ne (n : Nat) : encN n ≠ [] ∧ (encN n).length ≤ 4 := by
  unfold encN
  split
  · exact ⟨by simp, by simp⟩
  · split
    · exact ⟨by simp, by simp⟩
    · split
      · exact ⟨by simp, by simp⟩
      · exact ⟨by simp, by simp⟩
theorem far_ne {g1 g : Nat} (h : g < g1) : ∀ j, (((⟨g1, 0, none⟩ : Addr).add j).block = g) = False := by
  intro j
  have hadd : (⟨g1, 0, none⟩ : Addr).add j = ⟨g1, j, none⟩ := by unfold Addr.add; split <;> simp_all
  rw [hadd]
  simp
  omega
set_option maxHeartbeats 1000000 in
theorem numeric10_no (g : Nat) (s : ByteArray) (a : Nat) (v : Value) (L : List Nat) (x : Option Value) (w : World) (h : Rd w g s a v L x) (ha : a + 2 ≤ s.size) (hs : s.size ≤ 140737488355328)
    (hno : endB s (a + 2) = false ∨ (decide (0 < (bodyS s (a + 2)).size) && (numS 10 (bodyS s (a + 2))).isSome) = false ∨ xmlB (((numS 10 (bodyS s (a + 2))).getD 0 : Nat) : Int) = false) :
    Calls Try.prog 44 #[.pointer (some ⟨g, 0, none⟩), .string ⟨#[38, 35]⟩, .int .i64 10] w fun r w' => r = .returned (.bool false) ∧ ∃ n, w' = w.drewN n := by
  have hbz := (bodyS_size s (a + 2)).2 ha
  have CB := fun w h => body_any g s ⟨#[38, 35]⟩ a v L x w h ha hs
  rw [show (ByteArray.mk #[38, 35]).size = 2 from rfl] at CB
  have CN := fun w => numberOf_10 (bodyS s (a + 2)) w (by omega)
  clear hbz
  generalize (decide (0 < (bodyS s (a + 2)).size) && (numS 10 (bodyS s (a + 2))).isSome) = S at CN hno
  generalize (numS 10 (bodyS s (a + 2))).getD 0 = n at CN hno
  generalize bodyS s (a + 2) = D at CB CN
  generalize endB s (a + 2) = E at CB hno
  cases E
  · go_enter Try.func44, Try.ntmps44
    go_wp2_with (first | (go_at_call 45; refine (CB _ h).mono ?_; rintro e w1 ⟨rfl, n1, rfl⟩) | (go_at_call 48; refine (CN _).mono ?_; rintro e w2 ⟨rfl, hw2⟩; subst w2) | (go_at_call 18; refine (isXMLChar_any _ _).mono ?_; rintro e w3 ⟨rfl, hw3⟩; subst w3))
    go_ret
    exact ⟨rfl, n1, rfl⟩
  · cases S
    · go_enter Try.func44, Try.ntmps44
      go_wp2_with (first | (go_at_call 45; refine (CB _ h).mono ?_; rintro e w1 ⟨rfl, n1, rfl⟩) | (go_at_call 48; refine (CN _).mono ?_; rintro e w2 ⟨rfl, hw2⟩; subst w2) | (go_at_call 18; refine (isXMLChar_any _ _).mono ?_; rintro e w3 ⟨rfl, hw3⟩; subst w3))
      go_ret
      exact ⟨rfl, n1, rfl⟩
    · have hx : xmlB (n : Int) = false := by rcases hno with h | h | h; cases h; cases h; exact h
      go_enter Try.func44, Try.ntmps44
      go_wp2_with (first | (go_at_call 45; refine (CB _ h).mono ?_; rintro e w1 ⟨rfl, n1, rfl⟩) | (go_at_call 48; refine (CN _).mono ?_; rintro e w2 ⟨rfl, hw2⟩; subst w2) | (go_at_call 18; refine (isXMLChar_any _ _).mono ?_; rintro e w3 ⟨rfl, hw3⟩; subst w3))
      go_ret
      exact ⟨rfl, n1, rfl⟩
set_option maxHeartbeats 1000000 in
theorem numeric10_yes (g : Nat) (s : ByteArray) (a : Nat) (v : Value) (L : List Nat) (x : Option Value) (w : World) (h : Rd w g s a v L x) (ha : a + 2 ≤ s.size) (hs : s.size ≤ 140737488355000) (hl : L.length + 4 ≤ 140737488355328) (n : Nat)
    (he : endB s (a + 2) = true) (hz : 0 < (bodyS s (a + 2)).size) (hn : numS 10 (bodyS s (a + 2)) = some n) (hx : xmlB (n : Int) = true) :
    Calls Try.prog 44 #[.pointer (some ⟨g, 0, none⟩), .string ⟨#[38, 35]⟩, .int .i64 10] w fun r w' => r = .returned (.bool true) ∧ (∃ v', Rd w' g s (a + (2 + (bodyS s (a + 2)).size + 1)) v' (L ++ encN n) x) ∧ Below g w w' := by
  have hbz := (bodyS_size s (a + 2)).2 ha
  have CB := fun w h => body_any g s ⟨#[38, 35]⟩ a v L x w h ha (by omega)
  rw [show (ByteArray.mk #[38, 35]).size = 2 from rfl] at CB
  have CN := fun w => numberOf_10 (bodyS s (a + 2)) w (by omega)
  rw [he] at CB
  rw [hn, decide_eq_true hz] at CN
  have CN : ∀ w : World, Calls Try.prog 48 #[.string (bodyS s (a + 2)), .int .i64 10] w fun e w' => e = .returned (.tuple #[.int .i64 (n : Int), .bool true]) ∧ w' = w := CN
  have hzz := hbz.1
  clear hbz hz hn he
  generalize bodyS s (a + 2) = D at CB CN hzz ⊢
  have hr : (n : Int) < 1114112 := by unfold xmlB at hx; simp at hx; omega
  have hn2 : Hid ((2 : Int) + (D.size : Int) + 1 = ((2 + D.size + 1 : Nat) : Int)) := (by show (2 : Int) + (D.size : Int) + 1 = ((2 + D.size + 1 : Nat) : Int); omega)
  have hel := encN_ne n
  have hw32 : Hid (IntKind.i32.wrap (n : Int) = (n : Int)) := (by show IntKind.i32.wrap (n : Int) = (n : Int); simp [IntKind.wrap, IntKind.bits, IntKind.signed]; omega)
  have hwa : IntKind.i64.wrap ((2 : Int) + (D.size : Int)) = (2 : Int) + (D.size : Int) := by rw [IntKind.wrap_i64]; omega
  have hw64 : Hid (IntKind.i64.wrap ((2 : Int) + (D.size : Int) + 1) = ((2 + D.size + 1 : Nat) : Int)) := (by show IntKind.i64.wrap ((2 : Int) + (D.size : Int) + 1) = ((2 + D.size + 1 : Nat) : Int); rw [IntKind.wrap_i64]; omega)
  go_enter Try.func44, Try.ntmps44
  go_wp2_with (first | (go_at_call 45; refine (CB _ h).mono ?_; rintro e w1 ⟨rfl, n1, rfl⟩) | (go_at_call 48; refine (CN _).mono ?_; rintro e w2 ⟨rfl, hw2⟩; subst w2) | (go_at_call 18; refine (isXMLChar_any _ _).mono ?_; rintro e w3 ⟨rfl, hw3⟩; subst w3))
  go_region_with (first | (go_at_call 49; rw [hw32.out]; refine (AppendRune_any n hx _).mono ?_; rintro e w4 ⟨v1, rfl, hB1, hb1⟩; obtain ⟨g1, c1, rfl, hg1, hcl⟩ := hB1.some hel.1) | (go_at_call 40; rw [hw64.out]; refine (take_any g s a (2 + D.size + 1) v L (encN n) x ⟨g1, 0, none⟩ c1 w4 ((h.drewN (n1 + 1)).below hb1) hcl (far_ne (Nat.lt_of_lt_of_le h.lt hg1)) (by omega) (by omega)).mono ?_; rintro e w5 ⟨rfl, ⟨v', hR⟩, hb5, hz5⟩))
  all_goals
    go_wp2_with fail
    go_ret
    exact ⟨rfl, ⟨v', hR⟩, (bdN (Below.refl _ _) (n1 + 1)).trans ((hb1.mono (Nat.le_of_lt h.lt)).trans hb5)⟩
set_option maxHeartbeats 1000000 in
theorem numeric16_no (g : Nat) (s : ByteArray) (a : Nat) (v : Value) (L : List Nat) (x : Option Value) (w : World) (h : Rd w g s a v L x) (ha : a + 3 ≤ s.size) (hs : s.size ≤ 140737488355328)
    (hno : endB s (a + 3) = false ∨ (decide (0 < (bodyS s (a + 3)).size) && (numS 16 (bodyS s (a + 3))).isSome) = false ∨ xmlB (((numS 16 (bodyS s (a + 3))).getD 0 : Nat) : Int) = false) :
    Calls Try.prog 44 #[.pointer (some ⟨g, 0, none⟩), .string ⟨#[38, 35, 120]⟩, .int .i64 16] w fun r w' => r = .returned (.bool false) ∧ ∃ n, w' = w.drewN n := by
  have hbz := (bodyS_size s (a + 3)).2 ha
  have CB := fun w h => body_any g s ⟨#[38, 35, 120]⟩ a v L x w h ha hs
  rw [show (ByteArray.mk #[38, 35, 120]).size = 3 from rfl] at CB
  have CN := fun w => numberOf_16 (bodyS s (a + 3)) w (by omega)
  clear hbz
  generalize (decide (0 < (bodyS s (a + 3)).size) && (numS 16 (bodyS s (a + 3))).isSome) = S at CN hno
  generalize (numS 16 (bodyS s (a + 3))).getD 0 = n at CN hno
  generalize bodyS s (a + 3) = D at CB CN
  generalize endB s (a + 3) = E at CB hno
  cases E
  · go_enter Try.func44, Try.ntmps44
    go_wp2_with (first | (go_at_call 45; refine (CB _ h).mono ?_; rintro e w1 ⟨rfl, n1, rfl⟩) | (go_at_call 48; refine (CN _).mono ?_; rintro e w2 ⟨rfl, hw2⟩; subst w2) | (go_at_call 18; refine (isXMLChar_any _ _).mono ?_; rintro e w3 ⟨rfl, hw3⟩; subst w3))
    go_ret
    exact ⟨rfl, n1, rfl⟩
  · cases S
    · go_enter Try.func44, Try.ntmps44
      go_wp2_with (first | (go_at_call 45; refine (CB _ h).mono ?_; rintro e w1 ⟨rfl, n1, rfl⟩) | (go_at_call 48; refine (CN _).mono ?_; rintro e w2 ⟨rfl, hw2⟩; subst w2) | (go_at_call 18; refine (isXMLChar_any _ _).mono ?_; rintro e w3 ⟨rfl, hw3⟩; subst w3))
      go_ret
      exact ⟨rfl, n1, rfl⟩
    · have hx : xmlB (n : Int) = false := by rcases hno with h | h | h; cases h; cases h; exact h
      go_enter Try.func44, Try.ntmps44
      go_wp2_with (first | (go_at_call 45; refine (CB _ h).mono ?_; rintro e w1 ⟨rfl, n1, rfl⟩) | (go_at_call 48; refine (CN _).mono ?_; rintro e w2 ⟨rfl, hw2⟩; subst w2) | (go_at_call 18; refine (isXMLChar_any _ _).mono ?_; rintro e w3 ⟨rfl, hw3⟩; subst w3))
      go_ret
      exact ⟨rfl, n1, rfl⟩
set_option maxHeartbeats 1000000 in
theorem numeric16_yes (g : Nat) (s : ByteArray) (a : Nat) (v : Value) (L : List Nat) (x : Option Value) (w : World) (h : Rd w g s a v L x) (ha : a + 3 ≤ s.size) (hs : s.size ≤ 140737488355000) (hl : L.length + 4 ≤ 140737488355328) (n : Nat)
    (he : endB s (a + 3) = true) (hz : 0 < (bodyS s (a + 3)).size) (hn : numS 16 (bodyS s (a + 3)) = some n) (hx : xmlB (n : Int) = true) :
    Calls Try.prog 44 #[.pointer (some ⟨g, 0, none⟩), .string ⟨#[38, 35, 120]⟩, .int .i64 16] w fun r w' => r = .returned (.bool true) ∧ (∃ v', Rd w' g s (a + (3 + (bodyS s (a + 3)).size + 1)) v' (L ++ encN n) x) ∧ Below g w w' := by
  have hbz := (bodyS_size s (a + 3)).2 ha
  have CB := fun w h => body_any g s ⟨#[38, 35, 120]⟩ a v L x w h ha (by omega)
  rw [show (ByteArray.mk #[38, 35, 120]).size = 3 from rfl] at CB
  have CN := fun w => numberOf_16 (bodyS s (a + 3)) w (by omega)
  rw [he] at CB
  rw [hn, decide_eq_true hz] at CN
  have CN : ∀ w : World, Calls Try.prog 48 #[.string (bodyS s (a + 3)), .int .i64 16] w fun e w' => e = .returned (.tuple #[.int .i64 (n : Int), .bool true]) ∧ w' = w := CN
  have hzz := hbz.1
  clear hbz hz hn he
  generalize bodyS s (a + 3) = D at CB CN hzz ⊢
  have hr : (n : Int) < 1114112 := by unfold xmlB at hx; simp at hx; omega
  have hn2 : Hid ((3 : Int) + (D.size : Int) + 1 = ((3 + D.size + 1 : Nat) : Int)) := (by show (3 : Int) + (D.size : Int) + 1 = ((3 + D.size + 1 : Nat) : Int); omega)
  have hel := encN_ne n
  have hw32 : Hid (IntKind.i32.wrap (n : Int) = (n : Int)) := (by show IntKind.i32.wrap (n : Int) = (n : Int); simp [IntKind.wrap, IntKind.bits, IntKind.signed]; omega)
  have hwa : IntKind.i64.wrap ((3 : Int) + (D.size : Int)) = (3 : Int) + (D.size : Int) := by rw [IntKind.wrap_i64]; omega
  have hw64 : Hid (IntKind.i64.wrap ((3 : Int) + (D.size : Int) + 1) = ((3 + D.size + 1 : Nat) : Int)) := (by show IntKind.i64.wrap ((3 : Int) + (D.size : Int) + 1) = ((3 + D.size + 1 : Nat) : Int); rw [IntKind.wrap_i64]; omega)
  go_enter Try.func44, Try.ntmps44
  go_wp2_with (first | (go_at_call 45; refine (CB _ h).mono ?_; rintro e w1 ⟨rfl, n1, rfl⟩) | (go_at_call 48; refine (CN _).mono ?_; rintro e w2 ⟨rfl, hw2⟩; subst w2) | (go_at_call 18; refine (isXMLChar_any _ _).mono ?_; rintro e w3 ⟨rfl, hw3⟩; subst w3))
  go_region_with (first | (go_at_call 49; rw [hw32.out]; refine (AppendRune_any n hx _).mono ?_; rintro e w4 ⟨v1, rfl, hB1, hb1⟩; obtain ⟨g1, c1, rfl, hg1, hcl⟩ := hB1.some hel.1) | (go_at_call 40; rw [hw64.out]; refine (take_any g s a (3 + D.size + 1) v L (encN n) x ⟨g1, 0, none⟩ c1 w4 ((h.drewN (n1 + 1)).below hb1) hcl (far_ne (Nat.lt_of_lt_of_le h.lt hg1)) (by omega) (by omega)).mono ?_; rintro e w5 ⟨rfl, ⟨v', hR⟩, hb5, hz5⟩))
  all_goals
    go_wp2_with fail
    go_ret
    exact ⟨rfl, ⟨v', hR⟩, (bdN (Below.refl _ _) (n1 + 1)).trans ((hb1.mono (Nat.le_of_lt h.lt)).trans hb5)⟩
theorem decimal_no (g : Nat) (s : ByteArray) (a : Nat) (v : Value) (L : List Nat) (x : Option Value) (w : World) (h : Rd w g s a v L x) (ha : a + 2 ≤ s.size) (hs : s.size ≤ 140737488355328)
    (hno : endB s (a + 2) = false ∨ (decide (0 < (bodyS s (a + 2)).size) && (numS 10 (bodyS s (a + 2))).isSome) = false ∨ xmlB (((numS 10 (bodyS s (a + 2))).getD 0 : Nat) : Int) = false) :
    Calls Try.prog 36 #[.pointer (some ⟨g, 0, none⟩)] w fun r w' => r = .returned (.bool false) ∧ ∃ n, w' = w.drewN n := by
  go_enter Try.func36, Try.ntmps36
  go_wp2_with (go_at_call 44; refine (numeric10_no g s a v L x _ h ha hs hno).mono ?_; rintro e w1 ⟨rfl, n1, rfl⟩)
  go_ret
  exact ⟨rfl, n1, rfl⟩
theorem hexadecimal_no (g : Nat) (s : ByteArray) (a : Nat) (v : Value) (L : List Nat) (x : Option Value) (w : World) (h : Rd w g s a v L x) (ha : a + 3 ≤ s.size) (hs : s.size ≤ 140737488355328)
    (hno : endB s (a + 3) = false ∨ (decide (0 < (bodyS s (a + 3)).size) && (numS 16 (bodyS s (a + 3))).isSome) = false ∨ xmlB (((numS 16 (bodyS s (a + 3))).getD 0 : Nat) : Int) = false) :
    Calls Try.prog 35 #[.pointer (some ⟨g, 0, none⟩)] w fun r w' => r = .returned (.bool false) ∧ ∃ n, w' = w.drewN n := by
  go_enter Try.func35, Try.ntmps35
  go_wp2_with (go_at_call 44; refine (numeric16_no g s a v L x _ h ha hs hno).mono ?_; rintro e w1 ⟨rfl, n1, rfl⟩)
  go_ret
  exact ⟨rfl, n1, rfl⟩
theorem decimal_yes (g : Nat) (s : ByteArray) (a : Nat) (v : Value) (L : List Nat) (x : Option Value) (w : World) (h : Rd w g s a v L x) (ha : a + 2 ≤ s.size) (hs : s.size ≤ 140737488355000) (hl : L.length + 4 ≤ 140737488355328) (n : Nat)
    (he : endB s (a + 2) = true) (hz : 0 < (bodyS s (a + 2)).size) (hn : numS 10 (bodyS s (a + 2)) = some n) (hx : xmlB (n : Int) = true) :
    Calls Try.prog 36 #[.pointer (some ⟨g, 0, none⟩)] w fun r w' => r = .returned (.bool true) ∧ (∃ v', Rd w' g s (a + (2 + (bodyS s (a + 2)).size + 1)) v' (L ++ encN n) x) ∧ Below g w w' := by
  go_enter Try.func36, Try.ntmps36
  go_wp2_with (go_at_call 44; refine (numeric10_yes g s a v L x _ h ha hs hl n he hz hn hx).mono ?_; rintro e w1 ⟨rfl, hR, hb1⟩)
  go_ret
  exact ⟨rfl, hR, hb1⟩
theorem hexadecimal_yes (g : Nat) (s : ByteArray) (a : Nat) (v : Value) (L : List Nat) (x : Option Value) (w : World) (h : Rd w g s a v L x) (ha : a + 3 ≤ s.size) (hs : s.size ≤ 140737488355000) (hl : L.length + 4 ≤ 140737488355328) (n : Nat)
    (he : endB s (a + 3) = true) (hz : 0 < (bodyS s (a + 3)).size) (hn : numS 16 (bodyS s (a + 3)) = some n) (hx : xmlB (n : Int) = true) :
    Calls Try.prog 35 #[.pointer (some ⟨g, 0, none⟩)] w fun r w' => r = .returned (.bool true) ∧ (∃ v', Rd w' g s (a + (3 + (bodyS s (a + 3)).size + 1)) v' (L ++ encN n) x) ∧ Below g w w' := by
  go_enter Try.func35, Try.ntmps35
  go_wp2_with (go_at_call 44; refine (numeric16_yes g s a v L x _ h ha hs hl n he hz hn hx).mono ?_; rintro e w1 ⟨rfl, hR, hb1⟩)
  go_ret
  exact ⟨rfl, hR, hb1⟩
/-- Which function reads what stands at a place. -/
def eitemK (s : ByteArray) (a : Nat) : Nat := if ¬ ch s a = 38 then 34 else if a + 2 < s.size ∧ ch s (a + 1) = 35 ∧ ch s (a + 2) = 120 then 35 else if a + 1 < s.size ∧ ch s (a + 1) = 35 then 36 else 37
theorem eitem_any (g : Nat) (s : ByteArray) (a : Nat) (v : Value) (L : List Nat) (x : Option Value) (w : World) (h : Rd w g s a v L x) (ha : a < s.size) :
    Calls Try.prog 25 #[.pointer (some ⟨g, 0, none⟩)] w fun r w' => r = .returned (.func (Fn.func (eitemK s a)) #[.pointer (some ⟨g, 0, none⟩)] #[]) ∧ ∃ n, w' = w.drewN n := by
  have hmf : ∀ (fn : Fn) (first cap : Array Value) (w : World), (Instr.makeFunc fn first cap).run Try.prog w = .ok (.func fn first cap) w := fun _ _ _ _ => rfl
  have c0 := h.h0
  have c1 := h.h1
  have hsl := fun w => slice_from s a (by omega) w
  have ez : (s.extract a s.size).size = s.size - a := size_ext s a _ (Nat.le_refl _)
  have ce : ch (s.extract a s.size) 0 = ch s a := by rw [ch_ext s a s.size 0 (by omega)]; rfl
  have ix : ∀ w : World, (Instr.index 9 (.string (s.extract a s.size)) (.int .i64 0)).run Try.prog w = .ok (.int .u8 (ch s a : Int)) w := fun w => by
    rw [← ce]; exact idx (w := w) (s.extract a s.size) 0 (by omega) .i64
  have p1 := pre3 s a 38 35 120
  have p2 := pre2 s a 38 35
  rw [show (38 : UInt8).toNat = 38 from rfl, show (35 : UInt8).toNat = 35 from rfl, show (120 : UInt8).toNat = 120 from rfl] at p1
  rw [show (38 : UInt8).toNat = 38 from rfl, show (35 : UInt8).toNat = 35 from rfl] at p2
  clear h ez ce
  by_cases k0 : ch s a = 38
  · have q0 : ((ch s a : Int) == 38) = true := by simp; omega
    have q0' : ((ch s a : Int) != 38) = false := by simp; omega
    by_cases k1 : a + 2 < s.size ∧ ch s (a + 1) = 35 ∧ ch s (a + 2) = 120
    · have q1 : prefB (s.extract a s.size) { data := #[38, 35, 120] } = true := by rw [p1]; simp [k0, k1]
      have e : eitemK s a = 35 := by unfold eitemK; rw [if_neg (by simp [k0]), if_pos k1]
      rw [e]
      clear p1 p2 k0
      go_enter Try.func25, Try.ntmps25
      go_wp2
      go_quiet (fail)
      go_wp2_with (go_at_call 20; refine (HasPrefix_any _ _ _).mono ?_; rintro e w1 ⟨rfl, hw1⟩; subst w1)
      go_ret
      exact ⟨rfl, nq, rfl⟩
    · have q1 : prefB (s.extract a s.size) { data := #[38, 35, 120] } = false := by
        rw [p1, Bool.eq_false_iff]
        simp
        intro h1 _ h2 h3
        exact k1 ⟨h1, h2, h3⟩
      by_cases k2 : a + 1 < s.size ∧ ch s (a + 1) = 35
      · have q2 : prefB (s.extract a s.size) { data := #[38, 35] } = true := by rw [p2]; simp [k0, k2]
        have e : eitemK s a = 36 := by unfold eitemK; rw [if_neg (by simp [k0]), if_neg k1, if_pos k2]
        rw [e]
        clear p1 p2 k0
        go_enter Try.func25, Try.ntmps25
        go_wp2
        go_quiet (fail)
        go_wp2_with (go_at_call 20; refine (HasPrefix_any _ _ _).mono ?_; rintro e w1 ⟨rfl, hw1⟩; subst w1)
        go_ret
        exact ⟨rfl, nq, rfl⟩
      · have q2 : prefB (s.extract a s.size) { data := #[38, 35] } = false := by
          rw [p2, Bool.eq_false_iff]
          simp
          intro h1 _ h2
          exact k2 ⟨h1, h2⟩
        have e : eitemK s a = 37 := by unfold eitemK; rw [if_neg (by simp [k0]), if_neg k1, if_neg k2]
        rw [e]
        clear p1 p2 k0
        go_enter Try.func25, Try.ntmps25
        go_wp2
        go_quiet (fail)
        go_wp2_with (go_at_call 20; refine (HasPrefix_any _ _ _).mono ?_; rintro e w1 ⟨rfl, hw1⟩; subst w1)
        go_ret
        exact ⟨rfl, nq, rfl⟩
  · have q0 : ((ch s a : Int) == 38) = false := by simp; omega
    have q0' : ((ch s a : Int) != 38) = true := by simp; omega
    have e : eitemK s a = 34 := by unfold eitemK; rw [if_pos k0]
    rw [e]
    clear p1 p2
    go_enter Try.func25, Try.ntmps25
    go_wp2
    go_quiet (fail)
    go_wp2_with (go_at_call 20; refine (HasPrefix_any _ _ _).mono ?_; rintro e w1 ⟨rfl, hw1⟩; subst w1)
    go_ret
    exact ⟨rfl, nq, rfl⟩
end Go.Proofs.Ythiilkmnbjgoaaa
