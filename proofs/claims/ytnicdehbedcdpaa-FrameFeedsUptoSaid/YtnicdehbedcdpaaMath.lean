/- The plain mathematics of package text: bytes of a text, sequences. Nothing of the program. -/
import Derived.Laws.Strings3
namespace Go.Proofs.Ytnicdehbedcdpaa

/-- The byte at place i of a text, 0 behind it. -/
def ch (s : ByteArray) (i : Nat) : Nat := (s.data.toList.getD i 0).toNat
theorem tl_len (t : ByteArray) : t.data.toList.length = t.size := Array.length_toList
theorem ch_lt (s : ByteArray) (i : Nat) : ch s i < 256 := UInt8.toNat_lt _
theorem ch_get (s : ByteArray) (i : Nat) (h : i < s.size) : (s[i]'h).toNat = ch s i := by
  have h2 : i < s.data.toList.length := by rw [tl_len]; exact h
  simp only [ch, List.getD, List.getElem?_eq_getElem h2, Option.getD_some]
  congr 1
theorem size_ext (s : ByteArray) (a b : Nat) (h : b ≤ s.size) : (s.extract a b).size = b - a := by
  rw [ByteArray.size_extract]; omega
theorem list_ext (s : ByteArray) (a b : Nat) : (s.extract a b).data.toList = (s.data.toList.drop a).take (b - a) := by
  rw [ByteArray.data_extract, Array.toList_extract, List.extract_eq_take_drop]
theorem ch_ext (s : ByteArray) (a b i : Nat) (hi : i < b - a) : ch (s.extract a b) i = ch s (a + i) := by
  unfold ch
  rw [list_ext]
  simp only [List.getD]
  rw [List.getElem?_take_of_lt hi, List.getElem?_drop]
theorem ch_out (s : ByteArray) (i : Nat) (h : s.size ≤ i) : ch s i = 0 := by
  have h2 : s.data.toList.length ≤ i := by rw [tl_len]; exact h
  simp only [ch, List.getD, List.getElem?_eq_none h2, Option.getD_none]; rfl
theorem ch_app_l (a b : ByteArray) (i : Nat) (h : i < a.size) : ch (a ++ b) i = ch a i := by
  unfold ch
  rw [ByteArray.data_append, Array.toList_append, List.getD, List.getD, List.getElem?_append_left (by rw [tl_len]; exact h)]
theorem ch_app_r (a b : ByteArray) (i : Nat) : ch (a ++ b) (a.size + i) = ch b i := by
  unfold ch
  rw [ByteArray.data_append, Array.toList_append, List.getD, List.getD, List.getElem?_append_right (by rw [tl_len]; omega), tl_len, Nat.add_sub_cancel_left]
theorem ba_ext {a b : ByteArray} (h : a.data.toList = b.data.toList) : a = b := by
  cases a; cases b; congr 1; exact Array.toList_inj.1 h

/-- How many bytes a sequence with that first byte takes; between which the second lies. -/
def rsz (c : Nat) : Nat := if c ≤ 127 then 1 else if c < 194 then 0 else if c ≤ 223 then 2 else if c ≤ 239 then 3 else if c ≤ 244 then 4 else 0
def rlo (c : Nat) : Nat := if c ≤ 127 then 0 else if c < 194 then 0 else if c ≤ 223 then 128 else if c = 224 then 160 else if c ≤ 239 then 128 else if c = 240 then 144 else if c ≤ 244 then 128 else 0
def rhi (c : Nat) : Nat := if c ≤ 127 then 0 else if c < 194 then 0 else if c ≤ 223 then 191 else if c = 237 then 159 else if c ≤ 243 then 191 else if c = 244 then 143 else 0
def tailB (c : Nat) : Bool := decide (128 ≤ c) && decide (c ≤ 191)
/-- Begins a sequence there? -/
def begB (k lo hi : Nat) (s : ByteArray) : Bool :=
  decide (k ≤ s.size) && (decide (k = 1) || (decide (2 ≤ k) && decide (k ≤ 4) && decide (lo ≤ ch s 1) && decide (ch s 1 ≤ hi) && (decide (k < 3) || tailB (ch s 2)) && (decide (k < 4) || tailB (ch s 3))))
/-- The number that the first i bytes behind the first make. -/
def accN (c : Nat) (s : ByteArray) : Nat → Nat
  | 0 => c
  | i + 1 => accN c s i * 64 + ch s (i + 1) % 64
/-- The number and the size of the sequence with which a text begins. -/
def seqN (s : ByteArray) : Nat × Nat :=
  let c := ch s 0
  if begB (rsz c) (rlo c) (rhi c) s then (if rsz c = 1 then (c, 1) else (accN (c % 2 ^ (7 - rsz c)) s (rsz c - 1), rsz c)) else (0, 0)
def xmlB (n : Int) : Bool := decide (n = 9) || decide (n = 10) || decide (n = 13) || (decide (32 ≤ n) && decide (n ≤ 55295)) || (decide (57344 ≤ n) && decide (n ≤ 65533)) || (decide (65536 ≤ n) && decide (n ≤ 1114111))
theorem rsz_le (c : Nat) : rsz c ≤ 4 := by unfold rsz; split; omega; split; omega; split; omega; split; omega; split <;> omega
theorem seqN_size_le (s : ByteArray) : (seqN s).2 ≤ s.size := by
  unfold seqN
  dsimp only
  split
  · rename_i h
    have hk : rsz (ch s 0) ≤ s.size := by
      unfold begB at h
      simp only [Bool.and_eq_true, decide_eq_true_eq] at h
      exact h.1
    split
    · rename_i h1; rw [h1] at hk; exact hk
    · exact hk
  · exact Nat.zero_le _
theorem accN_lt (c : Nat) (s : ByteArray) (hc : c < 32) : ∀ i, accN c s i < 32 * 64 ^ i
  | 0 => by simpa [accN] using hc
  | i + 1 => by
    have := accN_lt c s hc i
    have h2 : ch s (i + 1) % 64 < 64 := Nat.mod_lt _ (by decide)
    simp only [accN]
    rw [Nat.pow_succ, ← Nat.mul_assoc]
    omega
/-- The first fault from a place on: error 20 or 21 and the place; 0 and 0 where there is none. -/
def faultF (ok : Int → Bool) (s : ByteArray) : Nat → Nat → Nat × Nat
  | 0, _ => (0, 0)
  | n + 1, a => if s.size ≤ a then (0, 0) else
    let r := seqN (s.extract a s.size)
    if r.2 = 0 then (20, a) else if ok r.1 then faultF ok s n (a + r.2) else (21, a)
def faultN (ok : Int → Bool) (s : ByteArray) : Nat × Nat := faultF ok s (s.size + 1) 0
theorem faultF_more (ok : Int → Bool) (s : ByteArray) : ∀ n a, s.size < n + a → ∀ m, s.size < m + a → faultF ok s n a = faultF ok s m a
  | 0, a, hn, 0, hm => rfl
  | 0, a, hn, m + 1, hm => by simp only [faultF]; rw [if_pos (by omega)]
  | n + 1, a, hn, 0, hm => by simp only [faultF]; rw [if_pos (by omega)]
  | n + 1, a, hn, m + 1, hm => by
    simp only [faultF]
    split
    · rfl
    · split
      · rfl
      · split
        · exact faultF_more ok s n _ (by omega) m (by omega)
        · rfl
theorem xmlB_any (n : Int) : (fun _ : Int => true) n = true := rfl
end Go.Proofs.Ytnicdehbedcdpaa
