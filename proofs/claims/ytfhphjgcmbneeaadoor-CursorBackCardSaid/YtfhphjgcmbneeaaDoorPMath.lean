/- The plain mathematics of package prim: the table of kinds, words, ranks. Nothing of the program. -/
namespace Go.Proofs.YtfhphjgcmbneeaaDoor

def kRow (p : Int) : Int × Int × Int × Int × Int :=
  if p = 0 then (1, 0, 0, 32, 126) else
  if p = 1 then (1, 1, 18446744073709551488, 18446744073709551489, 127) else
  if p = 2 then (2, 1, 18446744073709518848, 18446744073709518849, 32767) else
  if p = 3 then (4, 1, 18446744071562067968, 18446744071562067969, 2147483647) else
  if p = 4 then (8, 1, 9223372036854775808, 9223372036854775809, 9223372036854775807) else
  if p = 5 then (1, 0, 255, 0, 254) else
  if p = 6 then (2, 0, 65535, 0, 65534) else
  if p = 7 then (4, 0, 4294967295, 0, 4294967294) else
  if p = 8 then (8, 0, 18446744073709551615, 0, 18446744073709551614) else
  if p = 9 then (4, 2, 2143289344, 0, 4294967295) else
  if p = 10 then (8, 2, 9221120237041090560, 0, 18446744073709551615) else
  (0, 0, 0, 0, 0)
def sz (p : Int) : Int := (kRow p).1
def rd (p : Int) : Int := (kRow p).2.1
def nl (p : Int) : Int := (kRow p).2.2.1
def mn (p : Int) : Int := (kRow p).2.2.2.1
def mx (p : Int) : Int := (kRow p).2.2.2.2

/-- Which types there are. -/
theorem prim_cases (p : Int) : (p < 0 ∨ 11 ≤ p) ∨ p = 0 ∨ p = 1 ∨ p = 2 ∨ p = 3 ∨ p = 4 ∨ p = 5 ∨ p = 6 ∨ p = 7 ∨ p = 8 ∨ p = 9 ∨ p = 10 := by omega

theorem kRow_out (p : Int) (h : p < 0 ∨ 11 ≤ p) : kRow p = (0, 0, 0, 0, 0) := by
  unfold kRow
  rw [if_neg (by omega), if_neg (by omega), if_neg (by omega), if_neg (by omega), if_neg (by omega), if_neg (by omega), if_neg (by omega), if_neg (by omega), if_neg (by omega), if_neg (by omega), if_neg (by omega)]

/-- The pairs of size and reading that the table holds. -/
def KOk (s r : Int) : Prop := (s = 0 ∧ r = 0) ∨ (s = 1 ∧ r = 0) ∨ (s = 1 ∧ r = 1) ∨ (s = 2 ∧ r = 0) ∨ (s = 2 ∧ r = 1) ∨ (s = 4 ∧ r = 0) ∨ (s = 4 ∧ r = 1) ∨ (s = 4 ∧ r = 2) ∨ (s = 8 ∧ r = 0) ∨ (s = 8 ∧ r = 1) ∨ (s = 8 ∧ r = 2)
theorem kok (p : Int) : KOk (sz p) (rd p) := by
  unfold KOk
  rcases prim_cases p with h | rfl | rfl | rfl | rfl | rfl | rfl | rfl | rfl | rfl | rfl | rfl
  · left; unfold sz rd; rw [kRow_out p h]; exact ⟨rfl, rfl⟩
  all_goals decide
theorem sz_pos (p : Int) (h : sz p ≠ 0) : 0 ≤ p ∧ p < 11 := by
  rcases prim_cases p with h' | h'
  · exact absurd (show sz p = 0 by unfold sz; rw [kRow_out p h']) h
  · omega

/-- Two to the number of bits. -/
def pw (s : Int) : Int := if s = 1 then 256 else if s = 2 then 65536 else if s = 4 then 4294967296 else 18446744073709551616
def wordF (s r b : Int) : Int := if r = 1 ∧ pw s ≤ 2 * (b % pw s) then b % pw s + 18446744073709551616 - pw s else b % pw s
def fitsF (s r b : Int) : Bool := decide (0 < s) && (wordF s r b == b)
def rankF (s r b : Int) : Int := if r = 1 then (b + 9223372036854775808) % 18446744073709551616 else if r = 2 then (if pw s ≤ 2 * b then pw s - 1 - b else b + pw s / 2) else b
def cmp3 (a b : Int) : Int := if a < b then -1 else if b < a then 1 else 0
def cmpF (s r a b : Int) : Int := if fitsF s r a && fitsF s r b then cmp3 (rankF s r a) (rankF s r b) else 0

theorem pw_1 : pw 1 = 256 := rfl
theorem pw_2 : pw 2 = 65536 := rfl
theorem pw_4 : pw 4 = 4294967296 := rfl
theorem pw_8 : pw 8 = 18446744073709551616 := rfl
theorem rankF_hi (s b : Int) (hs : s = 4 ∨ s = 8) (h1 : b < pw s) (h : pw s ≤ 2 * b) : rankF s 2 b = wordF s 2 (18446744073709551615 - b) := by
  have e1 : rankF s 2 b = pw s - 1 - b := by unfold rankF; rw [if_neg (by decide), if_pos rfl, if_pos h]
  have e2 : wordF s 2 (18446744073709551615 - b) = (18446744073709551615 - b) % pw s := by unfold wordF; rw [if_neg (by omega)]
  rw [e1, e2]
  rcases hs with rfl | rfl
  · rw [pw_4] at *; omega
  · rw [pw_8] at *; omega
theorem rankF_lo (s b : Int) (h : ¬ pw s ≤ 2 * b) : rankF s 2 b = b + pw s / 2 := by
  unfold rankF; rw [if_neg (by decide), if_pos rfl, if_neg h]

/-- What fits, said in plain bounds. -/
theorem fits_iff (s r b : Int) (hk : KOk s r) (h0 : 0 ≤ b) (h1 : b < 18446744073709551616) :
    fitsF s r b = true ↔ s ≠ 0 ∧ ((r ≠ 1 ∧ b < pw s) ∨ (r = 1 ∧ (2 * b < pw s ∨ 18446744073709551616 ≤ b + pw s / 2))) := by
  unfold fitsF wordF
  rcases hk with ⟨rfl, rfl⟩ | ⟨rfl, rfl⟩ | ⟨rfl, rfl⟩ | ⟨rfl, rfl⟩ | ⟨rfl, rfl⟩ | ⟨rfl, rfl⟩ | ⟨rfl, rfl⟩ | ⟨rfl, rfl⟩ | ⟨rfl, rfl⟩ | ⟨rfl, rfl⟩ | ⟨rfl, rfl⟩
  all_goals simp [pw]
  all_goals first | omega | (split <;> omega)

/-- Where both fit the rank tells words apart. -/
theorem rank_inj (s r a b : Int) (hk : KOk s r) (ha0 : 0 ≤ a) (ha1 : a < 18446744073709551616) (hb0 : 0 ≤ b) (hb1 : b < 18446744073709551616)
    (ha : fitsF s r a = true) (hb : fitsF s r b = true) (h : rankF s r a = rankF s r b) : a = b := by
  rw [fits_iff s r a hk ha0 ha1] at ha
  rw [fits_iff s r b hk hb0 hb1] at hb
  unfold rankF at h
  rcases hk with ⟨rfl, rfl⟩ | ⟨rfl, rfl⟩ | ⟨rfl, rfl⟩ | ⟨rfl, rfl⟩ | ⟨rfl, rfl⟩ | ⟨rfl, rfl⟩ | ⟨rfl, rfl⟩ | ⟨rfl, rfl⟩ | ⟨rfl, rfl⟩ | ⟨rfl, rfl⟩ | ⟨rfl, rfl⟩
  all_goals simp [pw] at ha hb h
  all_goals first | omega | (split at h <;> split at h <;> omega)

theorem cmp3_bd (a b : Int) : -1 ≤ cmp3 a b ∧ cmp3 a b ≤ 1 := by unfold cmp3; split <;> (try split) <;> omega
theorem cmpF_bd (s r a b : Int) : -1 ≤ cmpF s r a b ∧ cmpF s r a b ≤ 1 := by unfold cmpF; split; exact cmp3_bd _ _; omega
theorem cmpF_no (s r a b : Int) (h : (fitsF s r a && fitsF s r b) = false) : cmpF s r a b = 0 := by unfold cmpF; rw [h]; rfl
theorem cmpF_yes (s r a b : Int) (ha : fitsF s r a = true) (hb : fitsF s r b = true) : cmpF s r a b = cmp3 (rankF s r a) (rankF s r b) := by unfold cmpF; rw [ha, hb]; rfl
theorem cmpF_turn (s r a b : Int) : cmpF s r b a = - cmpF s r a b := by
  unfold cmpF cmp3
  rw [Bool.and_comm (fitsF s r b)]
  cases (fitsF s r a && fitsF s r b)
  · rfl
  · simp only [if_true]
    by_cases h1 : rankF s r a < rankF s r b
    · rw [if_pos h1, if_neg (by omega), if_pos h1]; rfl
    · by_cases h2 : rankF s r b < rankF s r a
      · rw [if_pos h2, if_neg h1, if_pos h2]
      · rw [if_neg h1, if_neg h2, if_neg h1, if_neg h2]; rfl
theorem cmpF_self (s r a : Int) : cmpF s r a a = 0 := by have := cmpF_turn s r a a; omega
theorem cmpF_zero (s r a b : Int) (hk : KOk s r) (ha0 : 0 ≤ a) (ha1 : a < 18446744073709551616) (hb0 : 0 ≤ b) (hb1 : b < 18446744073709551616)
    (ha : fitsF s r a = true) (hb : fitsF s r b = true) : cmpF s r a b = 0 ↔ a = b := by
  constructor
  · intro h
    rw [cmpF_yes _ _ _ _ ha hb] at h
    refine rank_inj s r a b hk ha0 ha1 hb0 hb1 ha hb ?_
    unfold cmp3 at h
    split at h
    · omega
    · split at h <;> omega
  · rintro rfl; exact cmpF_self _ _ _
theorem cmpF_trans (s r a b c : Int) (ha : fitsF s r a = true) (hb : fitsF s r b = true) (hc : fitsF s r c = true)
    (h1 : cmpF s r a b < 0) (h2 : cmpF s r b c < 0) : cmpF s r a c < 0 := by
  rw [cmpF_yes _ _ _ _ ha hb] at h1
  rw [cmpF_yes _ _ _ _ hb hc] at h2
  rw [cmpF_yes _ _ _ _ ha hc]
  unfold cmp3 at h1 h2 ⊢
  split at h1
  · split at h2
    · rw [if_pos (by omega)]; omega
    · split at h2 <;> omega
  · split at h1 <;> omega
end Go.Proofs.YtfhphjgcmbneeaaDoor
