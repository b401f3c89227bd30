/- Numeric entities, of every number. -/
import Derived.Test.YthiilkmnbjgoaaaEMath
namespace Go.Proofs.Ythiilkmnbjgoaaa

/-- The value of digits. -/
def valL (b : Nat) : List Nat → Nat
  | [] => 0
  | c :: r => (worth c).getD 0 * b ^ r.length + valL b r
def digL (b : Nat) (D : List Nat) : Prop := ∀ c ∈ D, c < 128 ∧ ¬ c = 59 ∧ ∃ d, worth c = some d ∧ d < b
theorem numF_val (b : Nat) (hb : 2 ≤ b) : ∀ (D : List Nat) (m : Nat), digL b D → m ≤ 1114112 → numF b D m = some (min (m * b ^ D.length + valL b D) 1114112)
  | [], m, _, hm => by simp [numF, valL]; omega
  | c :: r, m, hD, hm => by
    obtain ⟨_, _, d, hw, hd⟩ := hD c (by simp)
    rw [numF_cons, hw]
    dsimp only
    rw [if_pos hd, numF_val b hb r _ (fun x hx => hD x (by simp [hx])) (Nat.min_le_right _ _)]
    have hv : valL b (c :: r) = d * b ^ r.length + valL b r := by simp [valL, hw]
    rw [hv, List.length_cons, Nat.pow_succ]
    have hp : 0 < b ^ r.length := Nat.pow_pos (by omega)
    have e1 : m * (b ^ r.length * b) + (d * b ^ r.length + valL b r) = (m * b + d) * b ^ r.length + valL b r := by
      rw [Nat.add_mul, Nat.mul_assoc m b, Nat.mul_comm b (b ^ r.length), Nat.add_assoc]
    rw [e1]
    generalize m * b + d = y
    by_cases hy : y ≤ 1114112
    · rw [Nat.min_eq_left hy]
    · rw [Nat.min_eq_right (show 1114112 ≤ y by omega)]
      have h1 : 1114112 * b ^ r.length ≤ y * b ^ r.length := Nat.mul_le_mul_right _ (by omega)
      have h2 : 1114112 * 1 ≤ 1114112 * b ^ r.length := Nat.mul_le_mul_left _ hp
      congr 1
      omega
theorem numF_digits (b : Nat) (hb : 2 ≤ b) (D : List Nat) (x : Nat) (hD : digL b D) (hx : valL b D = x) : numF b D 0 = some (min x 1114112) := by
  rw [numF_val b hb D 0 hD (by decide), hx, Nat.zero_mul, Nat.zero_add]
theorem xml_min (x : Nat) : xmlB ((min x 1114112 : Nat) : Int) = xmlB (x : Int) := by
  by_cases h : x ≤ 1114112
  · rw [Nat.min_eq_left h]
  · rw [Nat.min_eq_right (by omega)]
    have h1 : xmlB ((1114112 : Nat) : Int) = false := by decide
    rw [h1]
    symm
    unfold xmlB
    simp
    omega
theorem xml_lt {x : Nat} (h : xmlB (x : Int) = true) : x ≤ 1114111 := by unfold xmlB at h; simp at h; omega
theorem digL_no59 {b : Nat} {D : List Nat} (h : digL b D) : ∀ c ∈ D, ¬ c = 59 := fun c hc => (h c hc).2.1
theorem body_num {S : ByteArray} {P D R : List Nat} {k b x : Nat} (hk : P.length = k) (h : lOf S = P ++ D ++ 59 :: R) (hb : 2 ≤ b) (hD : digL b D) (hne : D ≠ []) (hx : valL b D = x) (a : Nat) (j : Nat) (hj : a + j = k) :
    numAt b S a j = if xmlB (x : Int) = true then some (encN x, a + (j + D.length + 1)) else none := by
  obtain ⟨e1, e2⟩ := body_at h (digL_no59 hD)
  rw [hk, ← hj] at e1 e2
  have e4 : (bodyS S (a + j)).size = D.length := by rw [← lOf_length, e1]
  have hp : 0 < D.length := by cases D; exact absurd rfl hne; simp
  unfold numAt numS
  rw [if_pos ⟨e2, by omega⟩, e1, numF_digits b hb D x hD hx]
  dsimp only
  rw [xml_min, e4]
  by_cases hg : xmlB (x : Int) = true
  · rw [if_pos hg, if_pos hg, Nat.min_eq_left (by have := xml_lt hg; omega)]
  · rw [if_neg hg, if_neg hg]
theorem ent_dec2 {S : ByteArray} {P D R : List Nat} {x : Nat} (h : lOf S = P ++ [38, 35] ++ D ++ 59 :: R) (hD : digL 10 D) (hne : D ≠ []) (hx : valL 10 D = x) : entAt S P.length = if xmlB (x : Int) = true then some (encN x, P.length + (2 + D.length + 1)) else none := by
  have hz := size_of h
  simp only [List.length_append, List.length_cons, List.length_nil] at hz
  have h2 : lOf S = P ++ [38, 35] ++ (D ++ 59 :: R) := by rw [h]; simp
  have hp : 0 < D.length := by cases D; exact absurd rfl hne; simp
  have c1 := ch_at h2 1 (by decide)
  have c2 := ch_at (P := P ++ [38, 35]) (M := D) h 0 hp
  rw [List.length_append, Nat.add_zero] at c2
  have c1 : ch S (P.length + 1) = 35 := c1
  have c2 : ch S (P.length + 2) = D.getD 0 0 := c2
  have h120 : ¬ D.getD 0 0 = 120 := by
    cases D with
    | nil => exact absurd rfl hne
    | cons c r =>
      intro e
      obtain ⟨_, _, d, hw, _⟩ := hD c (by simp)
      simp at e
      rw [e] at hw
      cases hw
  unfold entAt
  rw [if_neg (fun hh => h120 (by rw [← c2]; exact hh.2.2)), if_pos ⟨by omega, c1⟩]
  exact body_num (P := P ++ [38, 35]) (k := P.length + 2) (by simp) h (by decide) hD hne hx P.length 2 rfl
theorem ent_hex2 {S : ByteArray} {P D R : List Nat} {x : Nat} (h : lOf S = P ++ [38, 35, 120] ++ D ++ 59 :: R) (hD : digL 16 D) (hne : D ≠ []) (hx : valL 16 D = x) : entAt S P.length = if xmlB (x : Int) = true then some (encN x, P.length + (3 + D.length + 1)) else none := by
  have hz := size_of h
  simp only [List.length_append, List.length_cons, List.length_nil] at hz
  have h2 : lOf S = P ++ [38, 35, 120] ++ (D ++ 59 :: R) := by rw [h]; simp
  have c1 := ch_at h2 1 (by decide)
  have c2 := ch_at h2 2 (by decide)
  have c1 : ch S (P.length + 1) = 35 := c1
  have c2 : ch S (P.length + 2) = 120 := c2
  unfold entAt
  rw [if_pos ⟨by omega, c1, c2⟩]
  exact body_num (P := P ++ [38, 35, 120]) (k := P.length + 3) (by simp) h (by decide) hD hne hx P.length 3 rfl
/-- What is read of a front, an entity E, and what the law puts behind it. -/
theorem une_whole {S : ByteArray} {P E : List Nat} {M : List Nat} (hP : ∀ c ∈ P, ¬ c = 38) (h : lOf S = P ++ (38 :: E) ++ [122, 38, 108, 116, 59]) (he : entAt S P.length = some (M, P.length + (38 :: E).length)) : uneN S = (P ++ M ++ [122, 60], 0, 0) := by
  have hz := size_of h
  simp only [List.length_append, List.length_cons, List.length_nil] at hz
  have h0 : lOf S = P ++ (38 :: E) ++ [122, 38, 108, 116, 59] := h
  have c0 := ch_at h0 0 (by simp)
  rw [Nat.add_zero] at c0
  have c0 : ch S P.length = 38 := c0
  have h1 : lOf S = (P ++ (38 :: E)) ++ [122] ++ [38, 108, 116, 59] := by rw [h]; simp
  have h2 : lOf S = (P ++ (38 :: E) ++ [122]) ++ (38 :: [108, 116] ++ [59]) ++ [] := by rw [h]; simp
  have c1 := ch_at h1 0 (by decide)
  have c2 := ch_at h2 0 (by decide)
  have e2 := ent_named h2 (by decide) (by decide) (by decide) kLt rfl 60 rfl
  simp only [List.length_append, List.length_cons, List.length_nil, Nat.add_zero, List.getD_cons_zero] at c1 c2 e2 he
  have hrun := une_run S 0 [] P.length (by omega) (fun j hj => by
    have hh : lOf S = [] ++ P ++ ((38 :: E) ++ [122, 38, 108, 116, 59]) := by rw [h]; simp
    have := ch_at hh j hj
    rw [List.length_nil] at this
    rw [this]
    exact hP _ (by simp [List.getD, hj]))
  unfold uneN
  rw [hrun, Nat.zero_add, une_step S P.length _ (by omega), if_pos c0, he]
  dsimp only
  rw [une_step S (P.length + (E.length + 1)) _ (by omega), c1, if_neg (by decide), une_step S (P.length + (E.length + 1) + 1) _ (by omega)]
  have c2 : ch S (P.length + (E.length + 1) + 1) = 38 := c2
  have e2 : entAt S (P.length + (E.length + 1) + 1) = some ([60], P.length + (E.length + 1) + 1 + (0 + 1 + 1 + 2)) := e2
  rw [if_pos c2, e2]
  dsimp only
  rw [une_end S _ _ (by omega)]
  have e3 : ((lOf S).drop 0).take P.length = P := by rw [List.drop_zero, h, List.append_assoc, List.take_left]
  rw [e3]
  simp
theorem une_whole_no {S : ByteArray} {P E : List Nat} (hP : ∀ c ∈ P, ¬ c = 38) (h : lOf S = P ++ (38 :: E) ++ [122, 38, 108, 116, 59]) (he : entAt S P.length = none) : uneN S = ([], 22, P.length) := by
  have hz := size_of h
  simp only [List.length_append, List.length_cons, List.length_nil] at hz
  have c0 := ch_at h 0 (by simp)
  rw [Nat.add_zero] at c0
  have c0 : ch S P.length = 38 := c0
  have hrun := une_run S 0 [] P.length (by omega) (fun j hj => by
    have hh : lOf S = [] ++ P ++ ((38 :: E) ++ [122, 38, 108, 116, 59]) := by rw [h]; simp
    have := ch_at hh j hj
    rw [List.length_nil] at this
    rw [this]
    exact hP _ (by simp [List.getD, hj]))
  unfold uneN
  rw [hrun, Nat.zero_add, une_step S P.length _ (by omega), if_pos c0, he]
end Go.Proofs.Ythiilkmnbjgoaaa
