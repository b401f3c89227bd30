/- PMath, Math, Nam1. -/
import Derived.Laws.Strings3
import Derived.Test.YtepnmfgbflogkaaDoorProg
import Derived.WalkKit
import Derived.WalkSpells
import Derived.WalkLawsBesides
import Derived.ProofKit
import Derived.OpenShut
import Derived.Laws.BitsAllLaws
import Derived.Laws.DeepStrings4
import Derived.Deep.RegionWith
import Derived.Deep.QuietTactic
import Derived.BigQuiet
namespace Go.Proofs.YtepnmfgbflogkaaDoor

def kRow (p : Int) : Int × Int × Int × Int × Int :=
  if p = 0 then (1, 0, 0, 32, 126) else
  if p = 1 then (1, 1, 18446744073709551488, 18446744073709551489, 127) else
  if p = 2 then (2, 1, 18446744073709518848, 18446744073709518849, 32767) else
  if p = 3 then (4, 1, 18446744071562067968, 18446744071562067969, 2147483647) else
  if p = 4 then (8, 1, 9223372036854775808, 9223372036854775809, 9223372036854775807) else
  if p = 5 then (1, 0, 255, 0, 254) else
  if p = 6 then (2, 0, 65535, 0, 65534) else
  if p = 7 then (4, 0, 4294967295, 0, 4294967294) else
  if p = 8 then (8, 0, 18446744073709551615, 0, 18446744073709551614) else
  if p = 9 then (4, 2, 2143289344, 0, 4294967295) else
  if p = 10 then (8, 2, 9221120237041090560, 0, 18446744073709551615) else
  (0, 0, 0, 0, 0)
def sz (p : Int) : Int := (kRow p).1
def rd (p : Int) : Int := (kRow p).2.1
def nl (p : Int) : Int := (kRow p).2.2.1
def mn (p : Int) : Int := (kRow p).2.2.2.1
def mx (p : Int) : Int := (kRow p).2.2.2.2

/-- Which types there are. -/
theorem prim_cases (p : Int) : (p < 0 ∨ 11 ≤ p) ∨ p = 0 ∨ p = 1 ∨ p = 2 ∨ p = 3 ∨ p = 4 ∨ p = 5 ∨ p = 6 ∨ p = 7 ∨ p = 8 ∨ p = 9 ∨ p = 10 := by omega

theorem kRow_out (p : Int) (h : p < 0 ∨ 11 ≤ p) : kRow p = (0, 0, 0, 0, 0) := by
  unfold kRow
  rw [if_neg (by omega), if_neg (by omega), if_neg (by omega), if_neg (by omega), if_neg (by omega), if_neg (by omega), if_neg (by omega), if_neg (by omega), if_neg (by omega), if_neg (by omega), if_neg (by omega)]

/-- The pairs of size and reading that the table holds. -/
def KOk (s r : Int) : Prop := (s = 0 ∧ r = 0) ∨ (s = 1 ∧ r = 0) ∨ (s = 1 ∧ r = 1) ∨ (s = 2 ∧ r = 0) ∨ (s = 2 ∧ r = 1) ∨ (s = 4 ∧ r = 0) ∨ (s = 4 ∧ r = 1) ∨ (s = 4 ∧ r = 2) ∨ (s = 8 ∧ r = 0) ∨ (s = 8 ∧ r = 1) ∨ (s = 8 ∧ r = 2)
theorem kok (p : Int) : KOk (sz p) (rd p) := by
  unfold KOk
  rcases prim_cases p with h | rfl | rfl | rfl | rfl | rfl | rfl | rfl | rfl | rfl | rfl | rfl
  · left; unfold sz rd; rw [kRow_out p h]; exact ⟨rfl, rfl⟩
  all_goals decide
theorem sz_pos (p : Int) (h : sz p ≠ 0) : 0 ≤ p ∧ p < 11 := by
  rcases prim_cases p with h' | h'
  · exact absurd (show sz p = 0 by unfold sz; rw [kRow_out p h']) h
  · omega

/-- Two to the number of bits. -/
def pw (s : Int) : Int := if s = 1 then 256 else if s = 2 then 65536 else if s = 4 then 4294967296 else 18446744073709551616
def wordF (s r b : Int) : Int := if r = 1 ∧ pw s ≤ 2 * (b % pw s) then b % pw s + 18446744073709551616 - pw s else b % pw s
def fitsF (s r b : Int) : Bool := decide (0 < s) && (wordF s r b == b)
def rankF (s r b : Int) : Int := if r = 1 then (b + 9223372036854775808) % 18446744073709551616 else if r = 2 then (if pw s ≤ 2 * b then pw s - 1 - b else b + pw s / 2) else b
def cmp3 (a b : Int) : Int := if a < b then -1 else if b < a then 1 else 0
def cmpF (s r a b : Int) : Int := if fitsF s r a && fitsF s r b then cmp3 (rankF s r a) (rankF s r b) else 0

theorem pw_1 : pw 1 = 256 := rfl
theorem pw_2 : pw 2 = 65536 := rfl
theorem pw_4 : pw 4 = 4294967296 := rfl
theorem pw_8 : pw 8 = 18446744073709551616 := rfl
theorem rankF_hi (s b : Int) (hs : s = 4 ∨ s = 8) (h1 : b < pw s) (h : pw s ≤ 2 * b) : rankF s 2 b = wordF s 2 (18446744073709551615 - b) := by
  have e1 : rankF s 2 b = pw s - 1 - b := by unfold rankF; rw [if_neg (by decide), if_pos rfl, if_pos h]
  have e2 : wordF s 2 (18446744073709551615 - b) = (18446744073709551615 - b) % pw s := by unfold wordF; rw [if_neg (by omega)]
  rw [e1, e2]
  rcases hs with rfl | rfl
  · rw [pw_4] at *; omega
  · rw [pw_8] at *; omega
theorem rankF_lo (s b : Int) (h : ¬ pw s ≤ 2 * b) : rankF s 2 b = b + pw s / 2 := by
  unfold rankF; rw [if_neg (by decide), if_pos rfl, if_neg h]

/-- What fits, said in plain bounds. -/
theorem fits_iff (s r b : Int) (hk : KOk s r) (h0 : 0 ≤ b) (h1 : b < 18446744073709551616) :
    fitsF s r b = true ↔ s ≠ 0 ∧ ((r ≠ 1 ∧ b < pw s) ∨ (r = 1 ∧ (2 * b < pw s ∨ 18446744073709551616 ≤ b + pw s / 2))) := by
  unfold fitsF wordF
  rcases hk with ⟨rfl, rfl⟩ | ⟨rfl, rfl⟩ | ⟨rfl, rfl⟩ | ⟨rfl, rfl⟩ | ⟨rfl, rfl⟩ | ⟨rfl, rfl⟩ | ⟨rfl, rfl⟩ | ⟨rfl, rfl⟩ | ⟨rfl, rfl⟩ | ⟨rfl, rfl⟩ | ⟨rfl, rfl⟩
  all_goals simp [pw]
  all_goals first | omega | (split <;> omega)

/-- Where both fit the rank tells words apart. -/
theorem rank_inj (s r a b : Int) (hk : KOk s r) (ha0 : 0 ≤ a) (ha1 : a < 18446744073709551616) (hb0 : 0 ≤ b) (hb1 : b < 18446744073709551616)
    (ha : fitsF s r a = true) (hb : fitsF s r b = true) (h : rankF s r a = rankF s r b) : a = b := by
  rw [fits_iff s r a hk ha0 ha1] at ha
  rw [fits_iff s r b hk hb0 hb1] at hb
  unfold rankF at h
  rcases hk with ⟨rfl, rfl⟩ | ⟨rfl, rfl⟩ | ⟨rfl, rfl⟩ | ⟨rfl, rfl⟩ | ⟨rfl, rfl⟩ | ⟨rfl, rfl⟩ | ⟨rfl, rfl⟩ | ⟨rfl, rfl⟩ | ⟨rfl, rfl⟩ | ⟨rfl, rfl⟩ | ⟨rfl, rfl⟩
  all_goals simp [pw] at ha hb h
  all_goals first | omega | (split at h <;> split at h <;> omega)

theorem cmp3_bd (a b : Int) : -1 ≤ cmp3 a b ∧ cmp3 a b ≤ 1 := by unfold cmp3; split <;> (try split) <;> omega
theorem cmpF_bd (s r a b : Int) : -1 ≤ cmpF s r a b ∧ cmpF s r a b ≤ 1 := by unfold cmpF; split; exact cmp3_bd _ _; omega
theorem cmpF_no (s r a b : Int) (h : (fitsF s r a && fitsF s r b) = false) : cmpF s r a b = 0 := by unfold cmpF; rw [h]; rfl
theorem cmpF_yes (s r a b : Int) (ha : fitsF s r a = true) (hb : fitsF s r b = true) : cmpF s r a b = cmp3 (rankF s r a) (rankF s r b) := by unfold cmpF; rw [ha, hb]; rfl
theorem cmpF_turn (s r a b : Int) : cmpF s r b a = - cmpF s r a b := by
  unfold cmpF cmp3
  rw [Bool.and_comm (fitsF s r b)]
  cases (fitsF s r a && fitsF s r b)
  · rfl
  · simp only [if_true]
    by_cases h1 : rankF s r a < rankF s r b
    · rw [if_pos h1, if_neg (by omega), if_pos h1]; rfl
    · by_cases h2 : rankF s r b < rankF s r a
      · rw [if_pos h2, if_neg h1, if_pos h2]
      · rw [if_neg h1, if_neg h2, if_neg h1, if_neg h2]; rfl
theorem cmpF_self (s r a : Int) : cmpF s r a a = 0 := by have := cmpF_turn s r a a; omega
theorem cmpF_zero (s r a b : Int) (hk : KOk s r) (ha0 : 0 ≤ a) (ha1 : a < 18446744073709551616) (hb0 : 0 ≤ b) (hb1 : b < 18446744073709551616)
    (ha : fitsF s r a = true) (hb : fitsF s r b = true) : cmpF s r a b = 0 ↔ a = b := by
  constructor
  · intro h
    rw [cmpF_yes _ _ _ _ ha hb] at h
    refine rank_inj s r a b hk ha0 ha1 hb0 hb1 ha hb ?_
    unfold cmp3 at h
    split at h
    · omega
    · split at h <;> omega
  · rintro rfl; exact cmpF_self _ _ _
theorem cmpF_trans (s r a b c : Int) (ha : fitsF s r a = true) (hb : fitsF s r b = true) (hc : fitsF s r c = true)
    (h1 : cmpF s r a b < 0) (h2 : cmpF s r b c < 0) : cmpF s r a c < 0 := by
  rw [cmpF_yes _ _ _ _ ha hb] at h1
  rw [cmpF_yes _ _ _ _ hb hc] at h2
  rw [cmpF_yes _ _ _ _ ha hc]
  unfold cmp3 at h1 h2 ⊢
  split at h1
  · split at h2
    · rw [if_pos (by omega)]; omega
    · split at h2 <;> omega
  · split at h1 <;> omega
end Go.Proofs.YtepnmfgbflogkaaDoor
namespace Go.Proofs.YtepnmfgbflogkaaDoor

/-- The byte at place i of a text, 0 behind it. -/
def ch (s : ByteArray) (i : Nat) : Nat := (s.data.toList.getD i 0).toNat
theorem tl_len (t : ByteArray) : t.data.toList.length = t.size := Array.length_toList
theorem ch_lt (s : ByteArray) (i : Nat) : ch s i < 256 := UInt8.toNat_lt _
theorem ch_get (s : ByteArray) (i : Nat) (h : i < s.size) : (s[i]'h).toNat = ch s i := by
  have h2 : i < s.data.toList.length := by rw [tl_len]; exact h
  simp only [ch, List.getD, List.getElem?_eq_getElem h2, Option.getD_some]
  congr 1
theorem size_ext (s : ByteArray) (a b : Nat) (h : b ≤ s.size) : (s.extract a b).size = b - a := by
  rw [ByteArray.size_extract]; omega
theorem list_ext (s : ByteArray) (a b : Nat) : (s.extract a b).data.toList = (s.data.toList.drop a).take (b - a) := by
  rw [ByteArray.data_extract, Array.toList_extract, List.extract_eq_take_drop]
theorem ch_ext (s : ByteArray) (a b i : Nat) (hi : i < b - a) : ch (s.extract a b) i = ch s (a + i) := by
  unfold ch
  rw [list_ext]
  simp only [List.getD]
  rw [List.getElem?_take_of_lt hi, List.getElem?_drop]
theorem ch_out (s : ByteArray) (i : Nat) (h : s.size ≤ i) : ch s i = 0 := by
  have h2 : s.data.toList.length ≤ i := by rw [tl_len]; exact h
  simp only [ch, List.getD, List.getElem?_eq_none h2, Option.getD_none]; rfl
theorem ch_app_l (a b : ByteArray) (i : Nat) (h : i < a.size) : ch (a ++ b) i = ch a i := by
  unfold ch
  rw [ByteArray.data_append, Array.toList_append, List.getD, List.getD, List.getElem?_append_left (by rw [tl_len]; exact h)]
theorem ch_app_r (a b : ByteArray) (i : Nat) : ch (a ++ b) (a.size + i) = ch b i := by
  unfold ch
  rw [ByteArray.data_append, Array.toList_append, List.getD, List.getD, List.getElem?_append_right (by rw [tl_len]; omega), tl_len, Nat.add_sub_cancel_left]
theorem ba_ext {a b : ByteArray} (h : a.data.toList = b.data.toList) : a = b := by
  cases a; cases b; congr 1; exact Array.toList_inj.1 h

/-- How many bytes a sequence with that first byte takes; between which the second lies. -/
def rsz (c : Nat) : Nat := if c ≤ 127 then 1 else if c < 194 then 0 else if c ≤ 223 then 2 else if c ≤ 239 then 3 else if c ≤ 244 then 4 else 0
def rlo (c : Nat) : Nat := if c ≤ 127 then 0 else if c < 194 then 0 else if c ≤ 223 then 128 else if c = 224 then 160 else if c ≤ 239 then 128 else if c = 240 then 144 else if c ≤ 244 then 128 else 0
def rhi (c : Nat) : Nat := if c ≤ 127 then 0 else if c < 194 then 0 else if c ≤ 223 then 191 else if c = 237 then 159 else if c ≤ 243 then 191 else if c = 244 then 143 else 0
def tailB (c : Nat) : Bool := decide (128 ≤ c) && decide (c ≤ 191)
/-- Begins a sequence there? -/
def begB (k lo hi : Nat) (s : ByteArray) : Bool :=
  decide (k ≤ s.size) && (decide (k = 1) || (decide (2 ≤ k) && decide (k ≤ 4) && decide (lo ≤ ch s 1) && decide (ch s 1 ≤ hi) && (decide (k < 3) || tailB (ch s 2)) && (decide (k < 4) || tailB (ch s 3))))
/-- The number that the first i bytes behind the first make. -/
def accN (c : Nat) (s : ByteArray) : Nat → Nat
  | 0 => c
  | i + 1 => accN c s i * 64 + ch s (i + 1) % 64
/-- The number and the size of the sequence with which a text begins. -/
def seqN (s : ByteArray) : Nat × Nat :=
  let c := ch s 0
  if begB (rsz c) (rlo c) (rhi c) s then (if rsz c = 1 then (c, 1) else (accN (c % 2 ^ (7 - rsz c)) s (rsz c - 1), rsz c)) else (0, 0)
def xmlB (n : Int) : Bool := decide (n = 9) || decide (n = 10) || decide (n = 13) || (decide (32 ≤ n) && decide (n ≤ 55295)) || (decide (57344 ≤ n) && decide (n ≤ 65533)) || (decide (65536 ≤ n) && decide (n ≤ 1114111))
theorem rsz_le (c : Nat) : rsz c ≤ 4 := by unfold rsz; split; omega; split; omega; split; omega; split; omega; split <;> omega
theorem seqN_size_le (s : ByteArray) : (seqN s).2 ≤ s.size := by
  unfold seqN
  dsimp only
  split
  · rename_i h
    have hk : rsz (ch s 0) ≤ s.size := by
      unfold begB at h
      simp only [Bool.and_eq_true, decide_eq_true_eq] at h
      exact h.1
    split
    · rename_i h1; rw [h1] at hk; exact hk
    · exact hk
  · exact Nat.zero_le _
theorem accN_lt (c : Nat) (s : ByteArray) (hc : c < 32) : ∀ i, accN c s i < 32 * 64 ^ i
  | 0 => by simpa [accN] using hc
  | i + 1 => by
    have := accN_lt c s hc i
    have h2 : ch s (i + 1) % 64 < 64 := Nat.mod_lt _ (by decide)
    simp only [accN]
    rw [Nat.pow_succ, ← Nat.mul_assoc]
    omega
/-- The first fault from a place on: error 20 or 21 and the place; 0 and 0 where there is none. -/
def faultF (ok : Int → Bool) (s : ByteArray) : Nat → Nat → Nat × Nat
  | 0, _ => (0, 0)
  | n + 1, a => if s.size ≤ a then (0, 0) else
    let r := seqN (s.extract a s.size)
    if r.2 = 0 then (20, a) else if ok r.1 then faultF ok s n (a + r.2) else (21, a)
def faultN (ok : Int → Bool) (s : ByteArray) : Nat × Nat := faultF ok s (s.size + 1) 0
theorem faultF_more (ok : Int → Bool) (s : ByteArray) : ∀ n a, s.size < n + a → ∀ m, s.size < m + a → faultF ok s n a = faultF ok s m a
  | 0, a, hn, 0, hm => rfl
  | 0, a, hn, m + 1, hm => by simp only [faultF]; rw [if_pos (by omega)]
  | n + 1, a, hn, 0, hm => by simp only [faultF]; rw [if_pos (by omega)]
  | n + 1, a, hn, m + 1, hm => by
    simp only [faultF]
    split
    · rfl
    · split
      · rfl
      · split
        · exact faultF_more ok s n _ (by omega) m (by omega)
        · rfl
theorem xmlB_any (n : Int) : (fun _ : Int => true) n = true := rfl
end Go.Proofs.YtepnmfgbflogkaaDoor
namespace Go.Proofs.YtepnmfgbflogkaaDoor
open Go.ChangeShapes Go.WideShapes Go.ChangeAt Go.RowKit

theorem nret {a b : Bool} (h : a = b) : Ending.returned (.bool a) = .returned (.bool b) := by rw [h]
theorem nidx {w : World} (s : ByteArray) (i : Nat) (h : i < s.size) (k : IntKind) : (Instr.index 9 (.string s) (.int k (i : Int))).run Tryd.prog w = .ok (.int .u8 (ch s i : Int)) w := by
  rw [run_index_string w 9 s k i Tryd.underlying9, dif_pos ⟨by omega, by omega⟩]
  simp only [Int.toNat_natCast, ch_get]
def nlet (c : Nat) : Bool := (decide (65 ≤ c) && decide (c ≤ 90)) || (decide (97 ≤ c) && decide (c ≤ 122))
def ndig (c : Nat) : Bool := decide (48 ≤ c) && decide (c ≤ 57)
def nxml (c : Nat) (first : Bool) : Bool := decide (c = 95) || decide (c = 58) || ((decide (c = 45) || decide (c = 46)) && !first) || nlet c || (ndig c && !first)
def nsym (c : Nat) : Bool := nlet c || ndig c || decide (c = 95)
def xmlNameB (s : ByteArray) : Bool := decide (0 < s.size ∧ ∀ i, i < s.size → nxml (ch s i) (decide (i = 0)) = true)
def symbolB (s : ByteArray) : Bool := decide (0 < s.size ∧ s.size ≤ 64 ∧ ndig (ch s 0) = false ∧ ∀ i, i < s.size → nsym (ch s i) = true)
theorem nisDigit (c : Nat) (w : World) : Calls Tryd.prog 81 #[.int .u8 (c : Int)] w fun e w' => e = .returned (.bool (ndig c)) ∧ w' = w := by
  unfold ndig
  by_cases h : 48 ≤ c
  · go_enter Tryd.func81, Tryd.ntmps81
    go_wp2
    go_ret
    exact ⟨nret (by simp [h]; omega), rfl⟩
  · have d : decide (48 ≤ (c : Int)) = false := by simp; omega
    go_enter Tryd.func81, Tryd.ntmps81
    go_wp2
    go_ret
    exact ⟨nret (by simp; omega), rfl⟩
theorem nisLetter (c : Nat) (w : World) : Calls Tryd.prog 82 #[.int .u8 (c : Int)] w fun e w' => e = .returned (.bool (nlet c)) ∧ w' = w := by
  have : (c < 65) ∨ (65 ≤ c ∧ c ≤ 90) ∨ (90 < c ∧ c < 97) ∨ (97 ≤ c ∧ c ≤ 122) ∨ 122 < c := by omega
  rcases this with h | h | h | h | h
  · have d1 : decide (65 ≤ (c : Int)) = false := by simp; omega
    have d3 : decide (97 ≤ (c : Int)) = false := by simp; omega
    have g : nlet c = false := by unfold nlet; simp; omega
    rw [g]
    go_enter Tryd.func82, Tryd.ntmps82
    go_wp2
    go_ret
    exact ⟨rfl, rfl⟩
  · have d1 : decide (65 ≤ (c : Int)) = true := by simp; omega
    have d2 : decide ((c : Int) ≤ 90) = true := by simp; omega
    have g : nlet c = true := by unfold nlet; simp; omega
    rw [g]
    go_enter Tryd.func82, Tryd.ntmps82
    go_wp2
    go_ret
    exact ⟨rfl, rfl⟩
  · have d1 : decide (65 ≤ (c : Int)) = true := by simp; omega
    have d2 : decide ((c : Int) ≤ 90) = false := by simp; omega
    have d3 : decide (97 ≤ (c : Int)) = false := by simp; omega
    have g : nlet c = false := by unfold nlet; simp; omega
    rw [g]
    go_enter Tryd.func82, Tryd.ntmps82
    go_wp2
    go_ret
    exact ⟨rfl, rfl⟩
  · have d1 : decide (65 ≤ (c : Int)) = true := by simp; omega
    have d2 : decide ((c : Int) ≤ 90) = false := by simp; omega
    have d3 : decide (97 ≤ (c : Int)) = true := by simp; omega
    have d4 : decide ((c : Int) ≤ 122) = true := by simp; omega
    have g : nlet c = true := by unfold nlet; simp; omega
    rw [g]
    go_enter Tryd.func82, Tryd.ntmps82
    go_wp2
    go_ret
    exact ⟨rfl, rfl⟩
  · have d1 : decide (65 ≤ (c : Int)) = true := by simp; omega
    have d2 : decide ((c : Int) ≤ 90) = false := by simp; omega
    have d3 : decide (97 ≤ (c : Int)) = true := by simp; omega
    have d4 : decide ((c : Int) ≤ 122) = false := by simp; omega
    have g : nlet c = false := by unfold nlet; simp; omega
    rw [g]
    go_enter Tryd.func82, Tryd.ntmps82
    go_wp2
    go_ret
    exact ⟨rfl, rfl⟩
end Go.Proofs.YtepnmfgbflogkaaDoor
