/- PMath, PKind, PFace, PSh. -/
import Derived.Test.YtgklippjoikadaaDoorProg
import Derived.WalkKit
import Derived.WalkSpells
import Derived.WalkLawsBesides
import Derived.ProofKit
import Derived.OpenShut
import Derived.Laws.BitsAllLaws
import Derived.Deep.RegionWith
namespace Go.Proofs.YtgklippjoikadaaDoor

def kRow (p : Int) : Int × Int × Int × Int × Int :=
  if p = 0 then (1, 0, 0, 32, 126) else
  if p = 1 then (1, 1, 18446744073709551488, 18446744073709551489, 127) else
  if p = 2 then (2, 1, 18446744073709518848, 18446744073709518849, 32767) else
  if p = 3 then (4, 1, 18446744071562067968, 18446744071562067969, 2147483647) else
  if p = 4 then (8, 1, 9223372036854775808, 9223372036854775809, 9223372036854775807) else
  if p = 5 then (1, 0, 255, 0, 254) else
  if p = 6 then (2, 0, 65535, 0, 65534) else
  if p = 7 then (4, 0, 4294967295, 0, 4294967294) else
  if p = 8 then (8, 0, 18446744073709551615, 0, 18446744073709551614) else
  if p = 9 then (4, 2, 2143289344, 0, 4294967295) else
  if p = 10 then (8, 2, 9221120237041090560, 0, 18446744073709551615) else
  (0, 0, 0, 0, 0)
def sz (p : Int) : Int := (kRow p).1
def rd (p : Int) : Int := (kRow p).2.1
def nl (p : Int) : Int := (kRow p).2.2.1
def mn (p : Int) : Int := (kRow p).2.2.2.1
def mx (p : Int) : Int := (kRow p).2.2.2.2

/-- Which types there are. -/
theorem prim_cases (p : Int) : (p < 0 ∨ 11 ≤ p) ∨ p = 0 ∨ p = 1 ∨ p = 2 ∨ p = 3 ∨ p = 4 ∨ p = 5 ∨ p = 6 ∨ p = 7 ∨ p = 8 ∨ p = 9 ∨ p = 10 := by omega

theorem kRow_out (p : Int) (h : p < 0 ∨ 11 ≤ p) : kRow p = (0, 0, 0, 0, 0) := by
  unfold kRow
  rw [if_neg (by omega), if_neg (by omega), if_neg (by omega), if_neg (by omega), if_neg (by omega), if_neg (by omega), if_neg (by omega), if_neg (by omega), if_neg (by omega), if_neg (by omega), if_neg (by omega)]

/-- The pairs of size and reading that the table holds. -/
def KOk (s r : Int) : Prop := (s = 0 ∧ r = 0) ∨ (s = 1 ∧ r = 0) ∨ (s = 1 ∧ r = 1) ∨ (s = 2 ∧ r = 0) ∨ (s = 2 ∧ r = 1) ∨ (s = 4 ∧ r = 0) ∨ (s = 4 ∧ r = 1) ∨ (s = 4 ∧ r = 2) ∨ (s = 8 ∧ r = 0) ∨ (s = 8 ∧ r = 1) ∨ (s = 8 ∧ r = 2)
theorem kok (p : Int) : KOk (sz p) (rd p) := by
  unfold KOk
  rcases prim_cases p with h | rfl | rfl | rfl | rfl | rfl | rfl | rfl | rfl | rfl | rfl | rfl
  · left; unfold sz rd; rw [kRow_out p h]; exact ⟨rfl, rfl⟩
  all_goals decide
theorem sz_pos (p : Int) (h : sz p ≠ 0) : 0 ≤ p ∧ p < 11 := by
  rcases prim_cases p with h' | h'
  · exact absurd (show sz p = 0 by unfold sz; rw [kRow_out p h']) h
  · omega

/-- Two to the number of bits. -/
def pw (s : Int) : Int := if s = 1 then 256 else if s = 2 then 65536 else if s = 4 then 4294967296 else 18446744073709551616
def wordF (s r b : Int) : Int := if r = 1 ∧ pw s ≤ 2 * (b % pw s) then b % pw s + 18446744073709551616 - pw s else b % pw s
def fitsF (s r b : Int) : Bool := decide (0 < s) && (wordF s r b == b)
def rankF (s r b : Int) : Int := if r = 1 then (b + 9223372036854775808) % 18446744073709551616 else if r = 2 then (if pw s ≤ 2 * b then pw s - 1 - b else b + pw s / 2) else b
def cmp3 (a b : Int) : Int := if a < b then -1 else if b < a then 1 else 0
def cmpF (s r a b : Int) : Int := if fitsF s r a && fitsF s r b then cmp3 (rankF s r a) (rankF s r b) else 0

theorem pw_1 : pw 1 = 256 := rfl
theorem pw_2 : pw 2 = 65536 := rfl
theorem pw_4 : pw 4 = 4294967296 := rfl
theorem pw_8 : pw 8 = 18446744073709551616 := rfl
theorem rankF_hi (s b : Int) (hs : s = 4 ∨ s = 8) (h1 : b < pw s) (h : pw s ≤ 2 * b) : rankF s 2 b = wordF s 2 (18446744073709551615 - b) := by
  have e1 : rankF s 2 b = pw s - 1 - b := by unfold rankF; rw [if_neg (by decide), if_pos rfl, if_pos h]
  have e2 : wordF s 2 (18446744073709551615 - b) = (18446744073709551615 - b) % pw s := by unfold wordF; rw [if_neg (by omega)]
  rw [e1, e2]
  rcases hs with rfl | rfl
  · rw [pw_4] at *; omega
  · rw [pw_8] at *; omega
theorem rankF_lo (s b : Int) (h : ¬ pw s ≤ 2 * b) : rankF s 2 b = b + pw s / 2 := by
  unfold rankF; rw [if_neg (by decide), if_pos rfl, if_neg h]

/-- What fits, said in plain bounds. -/
theorem fits_iff (s r b : Int) (hk : KOk s r) (h0 : 0 ≤ b) (h1 : b < 18446744073709551616) :
    fitsF s r b = true ↔ s ≠ 0 ∧ ((r ≠ 1 ∧ b < pw s) ∨ (r = 1 ∧ (2 * b < pw s ∨ 18446744073709551616 ≤ b + pw s / 2))) := by
  unfold fitsF wordF
  rcases hk with ⟨rfl, rfl⟩ | ⟨rfl, rfl⟩ | ⟨rfl, rfl⟩ | ⟨rfl, rfl⟩ | ⟨rfl, rfl⟩ | ⟨rfl, rfl⟩ | ⟨rfl, rfl⟩ | ⟨rfl, rfl⟩ | ⟨rfl, rfl⟩ | ⟨rfl, rfl⟩ | ⟨rfl, rfl⟩
  all_goals simp [pw]
  all_goals first | omega | (split <;> omega)

/-- Where both fit the rank tells words apart. -/
theorem rank_inj (s r a b : Int) (hk : KOk s r) (ha0 : 0 ≤ a) (ha1 : a < 18446744073709551616) (hb0 : 0 ≤ b) (hb1 : b < 18446744073709551616)
    (ha : fitsF s r a = true) (hb : fitsF s r b = true) (h : rankF s r a = rankF s r b) : a = b := by
  rw [fits_iff s r a hk ha0 ha1] at ha
  rw [fits_iff s r b hk hb0 hb1] at hb
  unfold rankF at h
  rcases hk with ⟨rfl, rfl⟩ | ⟨rfl, rfl⟩ | ⟨rfl, rfl⟩ | ⟨rfl, rfl⟩ | ⟨rfl, rfl⟩ | ⟨rfl, rfl⟩ | ⟨rfl, rfl⟩ | ⟨rfl, rfl⟩ | ⟨rfl, rfl⟩ | ⟨rfl, rfl⟩ | ⟨rfl, rfl⟩
  all_goals simp [pw] at ha hb h
  all_goals first | omega | (split at h <;> split at h <;> omega)

theorem cmp3_bd (a b : Int) : -1 ≤ cmp3 a b ∧ cmp3 a b ≤ 1 := by unfold cmp3; split <;> (try split) <;> omega
theorem cmpF_bd (s r a b : Int) : -1 ≤ cmpF s r a b ∧ cmpF s r a b ≤ 1 := by unfold cmpF; split; exact cmp3_bd _ _; omega
theorem cmpF_no (s r a b : Int) (h : (fitsF s r a && fitsF s r b) = false) : cmpF s r a b = 0 := by unfold cmpF; rw [h]; rfl
theorem cmpF_yes (s r a b : Int) (ha : fitsF s r a = true) (hb : fitsF s r b = true) : cmpF s r a b = cmp3 (rankF s r a) (rankF s r b) := by unfold cmpF; rw [ha, hb]; rfl
theorem cmpF_turn (s r a b : Int) : cmpF s r b a = - cmpF s r a b := by
  unfold cmpF cmp3
  rw [Bool.and_comm (fitsF s r b)]
  cases (fitsF s r a && fitsF s r b)
  · rfl
  · simp only [if_true]
    by_cases h1 : rankF s r a < rankF s r b
    · rw [if_pos h1, if_neg (by omega), if_pos h1]; rfl
    · by_cases h2 : rankF s r b < rankF s r a
      · rw [if_pos h2, if_neg h1, if_pos h2]
      · rw [if_neg h1, if_neg h2, if_neg h1, if_neg h2]; rfl
theorem cmpF_self (s r a : Int) : cmpF s r a a = 0 := by have := cmpF_turn s r a a; omega
theorem cmpF_zero (s r a b : Int) (hk : KOk s r) (ha0 : 0 ≤ a) (ha1 : a < 18446744073709551616) (hb0 : 0 ≤ b) (hb1 : b < 18446744073709551616)
    (ha : fitsF s r a = true) (hb : fitsF s r b = true) : cmpF s r a b = 0 ↔ a = b := by
  constructor
  · intro h
    rw [cmpF_yes _ _ _ _ ha hb] at h
    refine rank_inj s r a b hk ha0 ha1 hb0 hb1 ha hb ?_
    unfold cmp3 at h
    split at h
    · omega
    · split at h <;> omega
  · rintro rfl; exact cmpF_self _ _ _
theorem cmpF_trans (s r a b c : Int) (ha : fitsF s r a = true) (hb : fitsF s r b = true) (hc : fitsF s r c = true)
    (h1 : cmpF s r a b < 0) (h2 : cmpF s r b c < 0) : cmpF s r a c < 0 := by
  rw [cmpF_yes _ _ _ _ ha hb] at h1
  rw [cmpF_yes _ _ _ _ hb hc] at h2
  rw [cmpF_yes _ _ _ _ ha hc]
  unfold cmp3 at h1 h2 ⊢
  split at h1
  · split at h2
    · rw [if_pos (by omega)]; omega
    · split at h2 <;> omega
  · split at h1 <;> omega
end Go.Proofs.YtgklippjoikadaaDoor
namespace Go.Proofs.YtgklippjoikadaaDoor
open Go.ChangeShapes Go.WideShapes Go.ChangeAt Go.RowKit

theorem ret_int {k : IntKind} {a b : Int} (h : a = b) : Ending.returned (.int k a) = .returned (.int k b) := by rw [h]
theorem ret_bool {a b : Bool} (h : a = b) : Ending.returned (.bool a) = .returned (.bool b) := by rw [h]
theorem bcell {W w1 : World} (hb : Below W.heap.size W w1) : (∀ b o, b < W.heap.size → w1.cell? ⟨b, o, none⟩ = W.cell? ⟨b, o, none⟩) ∧ (∀ b o, b < W.heap.size → w1.frozen? ⟨b, o, none⟩ = W.frozen? ⟨b, o, none⟩) :=
  ⟨fun b o h => hb.cell (p := ⟨b, o, none⟩) h, fun b o h => hb.frozen (p := ⟨b, o, none⟩) h⟩
theorem bel1 (w : World) (o : Obj) : Below w.heap.size w (w.alloc o) := (Below.refl _ _).alloc (Nat.le_refl _) _

/-- A kind as a value. -/
abbrev kV (s r n m x : Int) : Value := .agg #[.int .i64 s, .int .i64 r, .int .u64 n, .int .u64 m, .int .u64 x]

/-- The table's cells, as they are laid. -/
structure KT (w : World) : Prop where
  pos : 0 < w.heap.size
  size : ∀ p : Nat, p < 11 → w.cell? ⟨0, 5 * p, none⟩ = some (.int .i64 (sz p))
  reading : ∀ p : Nat, p < 11 → w.cell? ⟨0, 5 * p + 1, none⟩ = some (.int .i64 (rd p))
  null : ∀ p : Nat, p < 11 → w.cell? ⟨0, 5 * p + 2, none⟩ = some (.int .u64 (nl p))
  least : ∀ p : Nat, p < 11 → w.cell? ⟨0, 5 * p + 3, none⟩ = some (.int .u64 (mn p))
  most : ∀ p : Nat, p < 11 → w.cell? ⟨0, 5 * p + 4, none⟩ = some (.int .u64 (mx p))
theorem KT.below {w w' : World} (h : KT w) {B : Nat} (hB : 0 < B) (hb : Below B w w') : KT w' :=
  ⟨Nat.lt_of_lt_of_le h.pos hb.size, fun p hp => (hb.cell (p := ⟨0, 5 * p, none⟩) hB).trans (h.size p hp), fun p hp => (hb.cell (p := ⟨0, 5 * p + 1, none⟩) hB).trans (h.reading p hp),
    fun p hp => (hb.cell (p := ⟨0, 5 * p + 2, none⟩) hB).trans (h.null p hp), fun p hp => (hb.cell (p := ⟨0, 5 * p + 3, none⟩) hB).trans (h.least p hp), fun p hp => (hb.cell (p := ⟨0, 5 * p + 4, none⟩) hB).trans (h.most p hp)⟩

theorem kindOf_out (p : Int) (w : World) (h : p < 0 ∨ 11 ≤ p) :
    Calls Tryd.prog 63 #[.int .i64 p] w fun e w' => e = .returned (kV 0 0 0 0 0) ∧ Below w.heap.size w w' := by
  rcases h with h | h
  · go_enter Tryd.func63, Tryd.ntmps63
    go_wp2
    exact bodyPost_ret (v := kV 0 0 0 0 0) (by simp [results, Tryd.results63, go_sem]) rfl ⟨rfl, bel1 _ _⟩
  · have h' : ¬ p < 0 := by omega
    go_enter Tryd.func63, Tryd.ntmps63
    go_wp2
    exact bodyPost_ret (v := kV 0 0 0 0 0) (by simp [results, Tryd.results63, go_sem]) rfl ⟨rfl, bel1 _ _⟩
theorem kindOf_in (q : Nat) (s r n m x : Int) (w : World) (hq : q < 11) (hp : 0 < w.heap.size) (h0 : w.cell? ⟨0, 5 * q, none⟩ = some (.int .i64 s)) (h1 : w.cell? ⟨0, 5 * q + 1, none⟩ = some (.int .i64 r))
    (h2 : w.cell? ⟨0, 5 * q + 2, none⟩ = some (.int .u64 n)) (h3 : w.cell? ⟨0, 5 * q + 3, none⟩ = some (.int .u64 m)) (h4 : w.cell? ⟨0, 5 * q + 4, none⟩ = some (.int .u64 x)) :
    Calls Tryd.prog 63 #[.int .i64 q] w fun e w' => e = .returned (kV s r n m x) ∧ Below w.heap.size w w' := by
  have hc : q = 0 ∨ q = 1 ∨ q = 2 ∨ q = 3 ∨ q = 4 ∨ q = 5 ∨ q = 6 ∨ q = 7 ∨ q = 8 ∨ q = 9 ∨ q = 10 := by omega
  rcases hc with rfl | rfl | rfl | rfl | rfl | rfl | rfl | rfl | rfl | rfl | rfl
  all_goals
    simp only [Nat.mul_zero, Nat.zero_add, Nat.reduceMul, Nat.reduceAdd] at h0 h1 h2 h3 h4
    go_enter Tryd.func63, Tryd.ntmps63
    go_wp2
    exact bodyPost_ret (v := kV s r n m x) (by simp [results, Tryd.results63, go_sem]) rfl ⟨rfl, bel1 _ _⟩
theorem kindOf_any (p : Int) (w : World) (h : KT w) :
    Calls Tryd.prog 63 #[.int .i64 p] w fun e w' => e = .returned (kV (sz p) (rd p) (nl p) (mn p) (mx p)) ∧ Below w.heap.size w w' := by
  by_cases hp : p < 0 ∨ 11 ≤ p
  · have e : kV (sz p) (rd p) (nl p) (mn p) (mx p) = kV 0 0 0 0 0 := by unfold sz rd nl mn mx; rw [kRow_out p hp]
    rw [e]; exact kindOf_out p w hp
  · obtain ⟨q, rfl⟩ : ∃ q : Nat, p = q := ⟨p.toNat, by omega⟩
    exact kindOf_in q _ _ _ _ _ w (by omega) h.pos (h.size q (by omega)) (h.reading q (by omega)) (h.null q (by omega)) (h.least q (by omega)) (h.most q (by omega))

theorem word_any (s r n m x b : Int) (w : World) (hk : KOk s r) (hs : s ≠ 0) (hb : 0 ≤ b) (hb' : b < 18446744073709551616) :
    Calls Tryd.prog 68 #[kV s r n m x, .int .u64 b] w fun e w' => e = .returned (.int .u64 (wordF s r b)) ∧ Below w.heap.size w w' := by
  rcases hk with ⟨rfl, rfl⟩ | ⟨rfl, rfl⟩ | ⟨rfl, rfl⟩ | ⟨rfl, rfl⟩ | ⟨rfl, rfl⟩ | ⟨rfl, rfl⟩ | ⟨rfl, rfl⟩ | ⟨rfl, rfl⟩ | ⟨rfl, rfl⟩ | ⟨rfl, rfl⟩ | ⟨rfl, rfl⟩
  · exact absurd rfl hs
  all_goals
    clear hs
    go_enter Tryd.func68, Tryd.ntmps68
    go_wp2
    go_ret
    refine ⟨ret_int ?_, bel1 _ _⟩
    simp only [IntKind.wrap_u64, wrap64, wordF, pw, if_true, if_false, Int.reduceEq, false_and, true_and]
    try split
    all_goals omega
end Go.Proofs.YtgklippjoikadaaDoor
namespace Go.Proofs.YtgklippjoikadaaDoor
open Go.ChangeShapes Go.WideShapes Go.ChangeAt Go.RowKit

theorem fits_any (s r n m x b : Int) (w : World) (hk : KOk s r) (hb : 0 ≤ b) (hb' : b < 18446744073709551616) :
    Calls Tryd.prog 64 #[kV s r n m x, .int .u64 b] w fun e w' => e = .returned (.bool (fitsF s r b)) ∧ Below w.heap.size w w' := by
  by_cases hs : s = 0
  · subst hs
    go_enter Tryd.func64, Tryd.ntmps64
    go_wp2
    go_ret
    exact ⟨ret_bool rfl, (bel1 _ _).alloc (by simp) _⟩
  · have hpos : 0 < s := by unfold KOk at hk; omega
    have e : fitsF s r b = (wordF s r b == b) := by unfold fitsF; rw [decide_eq_true hpos]; rfl
    rw [e]
    have hk' : Hid (KOk s r) := hk
    clear hk e
    go_enter Tryd.func64, Tryd.ntmps64
    go_wp2_with (first | (go_at_call 68; refine (word_any _ _ _ _ _ _ _ hk'.out hs hb hb').mono ?_; rintro e w' ⟨rfl, hbl⟩) | (go_at_call 66; go_in))
    go_ret
    exact ⟨rfl, ((bel1 _ _).alloc (by simp) _).trans (hbl.mono (by simp; omega))⟩

theorem field0 (s r n m x : Int) (w : World) : (Instr.field 106 (kV s r n m x) 0).run Tryd.prog w = .ok (.int .i64 s) w := by kernel_rfl
theorem field1 (s r n m x : Int) (w : World) : (Instr.field 106 (kV s r n m x) 1).run Tryd.prog w = .ok (.int .i64 r) w := by kernel_rfl
theorem field2 (s r n m x : Int) (w : World) : (Instr.field 106 (kV s r n m x) 2).run Tryd.prog w = .ok (.int .u64 n) w := by kernel_rfl
theorem field3 (s r n m x : Int) (w : World) : (Instr.field 106 (kV s r n m x) 3).run Tryd.prog w = .ok (.int .u64 m) w := by kernel_rfl
theorem field4 (s r n m x : Int) (w : World) : (Instr.field 106 (kV s r n m x) 4).run Tryd.prog w = .ok (.int .u64 x) w := by kernel_rfl
theorem Fits_any (p b : Int) (w : World) (h : KT w) (hb : 0 ≤ b) (hb' : b < 18446744073709551616) : Calls Tryd.prog 40 #[.int .i64 p, .int .u64 b] w fun e w' => e = .returned (.bool (fitsF (sz p) (rd p) b)) ∧ Below w.heap.size w w' := by
  go_enter Tryd.func40, Tryd.ntmps40
  go_wp2_with (first | (go_at_call 63; refine (kindOf_any _ _ h).mono ?_; rintro e w' ⟨rfl, hbl⟩) | (go_at_call 64; refine (fits_any _ _ _ _ _ _ _ (kok p) hb hb').mono ?_; rintro e w1 ⟨rfl, hbl1⟩))
  go_ret
  exact ⟨rfl, hbl.trans (hbl1.mono hbl.size)⟩

end Go.Proofs.YtgklippjoikadaaDoor
namespace Go.Proofs.YtgklippjoikadaaDoor
open Go.ChangeShapes Go.WideShapes Go.ChangeAt Go.RowKit

/-- How many bits lie below the byte at place k. -/
def shI (hi : Bool) (s k : Int) : Int := if hi then 8 * (s - 1 - k) else 8 * k
theorem shI_bd (hi : Bool) (s k : Int) (h0 : 0 ≤ k) (h1 : k < s) (h2 : s ≤ 8) : 0 ≤ shI hi s k ∧ shI hi s k ≤ 56 := by unfold shI; split <;> omega
/-- The number that the first k of s bytes make. -/
def accF (hi : Bool) (s : Nat) (f : Nat → Int) : Nat → Int
  | 0 => 0
  | k + 1 => accF hi s f k + f k * 2 ^ (shI hi s k).toNat
/-- The byte at place k of a word. -/
def byteF (hi : Bool) (s : Nat) (x : Int) (k : Nat) : Int := x / 2 ^ (shI hi s k).toNat % 256
theorem shift_any (hi : Bool) (i s : Int) (w : World) (h0 : 0 ≤ i) (h1 : i < s) (h2 : s ≤ 8) :
    Calls Tryd.prog 78 #[.agg #[.bool hi], .int .i64 i, .int .i64 s] w fun e w' => e = .returned (.int .i64 (shI hi s i)) ∧ Below w.heap.size w w' := by
  cases hi
  · go_enter Tryd.func78, Tryd.ntmps78
    go_wp2
    go_ret
    exact ⟨rfl, bel1 _ _⟩
  · go_enter Tryd.func78, Tryd.ntmps78
    go_wp2
    go_ret
    exact ⟨rfl, bel1 _ _⟩
theorem shiftOf_0 (w : World) : Calls Tryd.prog 65 #[.int .i64 0] w fun e w' => e = .returned (.func (Fn.func 78) #[.agg #[.bool false]] #[]) ∧ w' = w := by
  have hmf : ∀ (fn : Fn) (first cap : Array Value) (w : World), (Instr.makeFunc fn first cap).run Tryd.prog w = .ok (.func fn first cap) w := fun _ _ _ _ => rfl
  go_enter Tryd.func65, Tryd.ntmps65
  go_wp2
  go_ret
  exact ⟨rfl, rfl⟩
theorem shiftOf_1 (w : World) : Calls Tryd.prog 65 #[.int .i64 1] w fun e w' => e = .returned (.func (Fn.func 78) #[.agg #[.bool true]] #[]) ∧ w' = w := by
  have hmf : ∀ (fn : Fn) (first cap : Array Value) (w : World), (Instr.makeFunc fn first cap).run Tryd.prog w = .ok (.func fn first cap) w := fun _ _ _ _ => rfl
  go_enter Tryd.func65, Tryd.ntmps65
  go_wp2
  go_ret
  exact ⟨rfl, rfl⟩
theorem shiftOf_out (o : Int) (w : World) (h : o < 0 ∨ 2 ≤ o) : Calls Tryd.prog 65 #[.int .i64 o] w fun e w' => e = .returned .nilFunc ∧ w' = w := by
  have g0 : (o == 0) = false := by simp; omega
  have g1 : (o == 1) = false := by simp; omega
  go_enter Tryd.func65, Tryd.ntmps65
  go_wp2
  go_ret
  exact ⟨rfl, rfl⟩
theorem within_any (a : Option Addr) (len cap : Nat) (at' n : Int) (w : World) (hl : len ≤ 9223372036854775807) (hn : n ≤ 9223372036854775807):
    Calls Tryd.prog 67 #[.slice a len cap, .int .i64 at', .int .i64 n] w fun e w' => e = .returned (.bool (decide (0 ≤ at') && decide (0 ≤ n) && decide (at' ≤ len - n))) ∧ w' = w := by
  by_cases h0 : 0 ≤ at'
  · by_cases h1 : 0 ≤ n
    · rw [decide_eq_true h0, decide_eq_true h1]
      go_enter Tryd.func67, Tryd.ntmps67
      go_wp2
      go_ret
      exact ⟨rfl, rfl⟩
    · rw [decide_eq_true h0, decide_eq_false h1]
      have h1' : decide (0 ≤ n) = false := decide_eq_false h1
      go_enter Tryd.func67, Tryd.ntmps67
      go_wp2
      go_ret
      exact ⟨rfl, rfl⟩
  · rw [decide_eq_false h0]
    have h0' : decide (0 ≤ at') = false := decide_eq_false h0
    go_enter Tryd.func67, Tryd.ntmps67
    go_wp2
    go_ret
    exact ⟨rfl, rfl⟩
end Go.Proofs.YtgklippjoikadaaDoor
