/- What sequences are, and what the first fault is, of rows of bytes between letters. -/
import Derived.Test.YtchfphakhmifmaaGreatDoorMB
namespace Go.Proofs.YtchfphakhmifmaaGreatDoor

theorem accN_1 (c : Nat) (s : ByteArray) : accN c s 1 = c * 64 + ch s 1 % 64 := rfl
theorem accN_2 (c : Nat) (s : ByteArray) : accN c s 2 = (c * 64 + ch s 1 % 64) * 64 + ch s 2 % 64 := rfl
theorem accN_3 (c : Nat) (s : ByteArray) : accN c s 3 = ((c * 64 + ch s 1 % 64) * 64 + ch s 2 % 64) * 64 + ch s 3 % 64 := rfl
theorem seq1 (t : ByteArray) (hs : 1 ≤ t.size) (h : ch t 0 ≤ 127) : seqN t = (ch t 0, 1) := by
  have e : rsz (ch t 0) = 1 := by unfold rsz; rw [if_pos h]
  unfold seqN
  dsimp only
  rw [e, if_pos (by unfold begB; simp [hs]), if_pos rfl]
theorem seq_none (t : ByteArray) (h : 128 ≤ ch t 0) (h2 : ch t 0 < 194) : seqN t = (0, 0) := by
  have e : rsz (ch t 0) = 0 := by unfold rsz; rw [if_neg (by omega), if_pos h2]
  unfold seqN
  dsimp only
  rw [e, if_neg (by unfold begB; simp)]
theorem seq2 (t : ByteArray) (hs : 2 ≤ t.size) (h : 194 ≤ ch t 0) (h2 : ch t 0 ≤ 223) (h3 : 128 ≤ ch t 1) (h4 : ch t 1 ≤ 191) : seqN t = ((ch t 0 - 192) * 64 + (ch t 1 - 128), 2) := by
  have e : rsz (ch t 0) = 2 := by unfold rsz; rw [if_neg (by omega), if_neg (by omega), if_pos h2]
  have l : rlo (ch t 0) = 128 := by unfold rlo; rw [if_neg (by omega), if_neg (by omega), if_pos h2]
  have u : rhi (ch t 0) = 191 := by unfold rhi; rw [if_neg (by omega), if_neg (by omega), if_pos h2]
  unfold seqN
  dsimp only
  rw [e, l, u, if_pos (by unfold begB; simp [hs, h3, h4]), if_neg (by decide)]
  rw [show (2 : Nat) - 1 = 1 from rfl, show (2 : Nat) ^ (7 - 2) = 32 from rfl, accN_1]
  rw [Prod.mk.injEq]
  exact ⟨by omega, rfl⟩
theorem lo3 (c : Nat) (h : 224 ≤ c) (h2 : c ≤ 239) : rlo c = if c = 224 then 160 else 128 := by
  unfold rlo; rw [if_neg (by omega), if_neg (by omega), if_neg (by omega)]
  split
  · rfl
  · first | rfl | rw [if_pos h2]
theorem hi3 (c : Nat) (h : 224 ≤ c) (h2 : c ≤ 239) : rhi c = if c = 237 then 159 else 191 := by
  unfold rhi; rw [if_neg (by omega), if_neg (by omega), if_neg (by omega)]
  split
  · rfl
  · rw [if_pos (by omega)]
theorem lo4 (c : Nat) (h : 240 ≤ c) (h2 : c ≤ 244) : rlo c = if c = 240 then 144 else 128 := by
  unfold rlo; rw [if_neg (by omega), if_neg (by omega), if_neg (by omega), if_neg (by omega), if_neg (by omega)]
  split
  · rfl
  · first | rfl | rw [if_pos h2]
theorem hi4 (c : Nat) (h : 240 ≤ c) (h2 : c ≤ 244) : rhi c = if c = 244 then 143 else 191 := by
  unfold rhi; rw [if_neg (by omega), if_neg (by omega), if_neg (by omega), if_neg (by omega)]
  by_cases e : c = 244
  · rw [if_neg (by omega), if_pos e, if_pos e]
  · rw [if_pos (by omega), if_neg e]
theorem sz3 (c : Nat) (h : 224 ≤ c) (h2 : c ≤ 239) : rsz c = 3 := by
  unfold rsz; rw [if_neg (by omega), if_neg (by omega), if_neg (by omega), if_pos h2]
theorem sz4 (c : Nat) (h : 240 ≤ c) (h2 : c ≤ 244) : rsz c = 4 := by
  unfold rsz; rw [if_neg (by omega), if_neg (by omega), if_neg (by omega), if_neg (by omega), if_pos h2]
theorem seq3 (t : ByteArray) (hs : 3 ≤ t.size) (h : 224 ≤ ch t 0) (h2 : ch t 0 ≤ 239) (h3 : rlo (ch t 0) ≤ ch t 1) (h4 : ch t 1 ≤ rhi (ch t 0)) (h5 : 128 ≤ ch t 2) (h6 : ch t 2 ≤ 191) :
    seqN t = ((ch t 0 - 224) * 4096 + (ch t 1 - 128) * 64 + (ch t 2 - 128), 3) := by
  have e := sz3 _ h h2
  have l := lo3 _ h h2
  have u := hi3 _ h h2
  have l2 : 128 ≤ ch t 1 := by rw [l] at h3; split at h3 <;> omega
  have u2 : ch t 1 ≤ 191 := by rw [u] at h4; split at h4 <;> omega
  unfold seqN
  dsimp only
  rw [e, if_pos (by unfold begB tailB; simp [hs, h3, h4, h5, h6]), if_neg (by decide)]
  rw [show (3 : Nat) - 1 = 2 from rfl, show (2 : Nat) ^ (7 - 3) = 16 from rfl, accN_2]
  rw [Prod.mk.injEq]
  exact ⟨by omega, rfl⟩
theorem seq4 (t : ByteArray) (hs : 4 ≤ t.size) (h : 240 ≤ ch t 0) (h2 : ch t 0 ≤ 244) (h3 : rlo (ch t 0) ≤ ch t 1) (h4 : ch t 1 ≤ rhi (ch t 0)) (h5 : 128 ≤ ch t 2) (h6 : ch t 2 ≤ 191) (h7 : 128 ≤ ch t 3) (h8 : ch t 3 ≤ 191) :
    seqN t = ((ch t 0 - 240) * 262144 + (ch t 1 - 128) * 4096 + (ch t 2 - 128) * 64 + (ch t 3 - 128), 4) := by
  have e := sz4 _ h h2
  have l := lo4 _ h h2
  have u := hi4 _ h h2
  have l2 : 128 ≤ ch t 1 := by rw [l] at h3; split at h3 <;> omega
  have u2 : ch t 1 ≤ 191 := by rw [u] at h4; split at h4 <;> omega
  unfold seqN
  dsimp only
  rw [e, if_pos (by unfold begB tailB; simp [hs, h3, h4, h5, h6, h7, h8]), if_neg (by decide)]
  rw [show (4 : Nat) - 1 = 3 from rfl, show (2 : Nat) ^ (7 - 4) = 8 from rfl, accN_3]
  rw [Prod.mk.injEq]
  exact ⟨by omega, rfl⟩
theorem seq_bad (t : ByteArray) (h : 224 ≤ ch t 0) (h2 : ch t 0 ≤ 244) (h3 : ch t 1 < rlo (ch t 0) ∨ rhi (ch t 0) < ch t 1) : seqN t = (0, 0) := by
  have e : 2 ≤ rsz (ch t 0) := by
    by_cases hh : ch t 0 ≤ 239
    · rw [sz3 _ h hh]; decide
    · rw [sz4 _ (by omega) h2]; decide
  unfold seqN
  dsimp only
  rw [if_neg ?_]
  unfold begB
  simp only [Bool.and_eq_true, Bool.or_eq_true, decide_eq_true_eq]
  omega
/-- Letters are passed by. -/
theorem fault_skip (ok : Int → Bool) (s : ByteArray) (p : Nat) (hp : p ≤ s.size) (hl : ∀ j, j < p → ch s j ≤ 127 ∧ ok (ch s j) = true) : ∀ a, a ≤ p → faultF ok s (s.size + 1) (p - a) = faultF ok s (s.size + 1) p
  | 0, _ => rfl
  | a + 1, ha => by
    have h := hl (p - (a + 1)) (by omega)
    have c0 : ch (s.extract (p - (a + 1)) s.size) 0 = ch s (p - (a + 1)) := by rw [ch_ext _ _ _ _ (by omega)]; rfl
    have e := seq1 (s.extract (p - (a + 1)) s.size) (by rw [size_ext _ _ _ (Nat.le_refl _)]; omega) (by rw [c0]; exact h.1)
    rw [fault_step ok s _ (by omega), e, if_neg (show ¬ (1 : Nat) = 0 by decide), c0, if_pos h.2]
    show faultF ok s (s.size + 1) (p - (a + 1) + 1) = _
    rw [show p - (a + 1) + 1 = p - a by omega]
    exact fault_skip ok s p hp hl a (by omega)
/-- Letters, a row of k bytes, a letter. -/
theorem fault_at (ok : Int → Bool) (s : ByteArray) (p k n : Nat) (hs : s.size = p + k + 1) (hl : ∀ j, j < p → ch s j ≤ 127 ∧ ok (ch s j) = true) (hz : ch s (p + k) = 122) (hoz : ok 122 = true) (hk : 0 < k) (hq : seqN (s.extract p s.size) = (n, k)) (hn : ok n = true) : faultN ok s = (0, 0) := by
  have h0 := fault_skip ok s p (by omega) hl p (Nat.le_refl _)
  rw [Nat.sub_self] at h0
  unfold faultN
  rw [h0, fault_step ok s p (by omega), hq, if_neg (by show ¬ k = 0; omega), if_pos hn]
  have c0 : ch (s.extract (p + k) s.size) 0 = 122 := by rw [ch_ext _ _ _ _ (by omega)]; exact hz
  have e := seq1 (s.extract (p + k) s.size) (by rw [size_ext _ _ _ (Nat.le_refl _)]; omega) (by rw [c0]; decide)
  show faultF ok s (s.size + 1) (p + k) = _
  rw [fault_step ok s _ (by omega), e, if_neg (show ¬ (1 : Nat) = 0 by decide), c0, if_pos (show ok ((122 : Nat) : Int) = true from hoz)]
  show faultF ok s (s.size + 1) (p + k + 1) = _
  rw [← hs]
  exact fault_end ok s
theorem fault_at_no (ok : Int → Bool) (s : ByteArray) (p k n : Nat) (hs : p < s.size) (hl : ∀ j, j < p → ch s j ≤ 127 ∧ ok (ch s j) = true) (hk : 0 < k) (hq : seqN (s.extract p s.size) = (n, k)) (hn : ok n = false) : faultN ok s = (21, p) := by
  have h0 := fault_skip ok s p (by omega) hl p (Nat.le_refl _)
  rw [Nat.sub_self] at h0
  unfold faultN
  rw [h0, fault_step ok s p hs, hq, if_neg (by show ¬ k = 0; omega), if_neg (by rw [hn]; decide)]
theorem fault_at_bad (ok : Int → Bool) (s : ByteArray) (p : Nat) (hs : p < s.size) (hl : ∀ j, j < p → ch s j ≤ 127 ∧ ok (ch s j) = true) (hq : seqN (s.extract p s.size) = (0, 0)) : faultN ok s = (20, p) := by
  have h0 := fault_skip ok s p (by omega) hl p (Nat.le_refl _)
  rw [Nat.sub_self] at h0
  unfold faultN
  rw [h0, fault_step ok s p hs, hq, if_pos rfl]
end Go.Proofs.YtchfphakhmifmaaGreatDoor
