/- PtsMath, XEs, YB1, YB2, YB3, YB4, TPm. -/
import Derived.Test.YtchfphakhmifmaaGreatDoorMB
import Derived.Test.YtchfphakhmifmaaGreatDoorEsc
import Derived.Test.YtchfphakhmifmaaGreatDoorMA
import Derived.Test.YtchfphakhmifmaaGreatDoorXTk
import Derived.Test.YtchfphakhmifmaaGreatDoorXWr
import Derived.Test.YtchfphakhmifmaaGreatDoorXCan
import Derived.Test.YtchfphakhmifmaaGreatDoorMD
import Derived.Test.YtchfphakhmifmaaGreatDoorPB
namespace Go.Proofs.YtchfphakhmifmaaGreatDoor

theorem accN_1 (c : Nat) (s : ByteArray) : accN c s 1 = c * 64 + ch s 1 % 64 := rfl
theorem accN_2 (c : Nat) (s : ByteArray) : accN c s 2 = (c * 64 + ch s 1 % 64) * 64 + ch s 2 % 64 := rfl
theorem accN_3 (c : Nat) (s : ByteArray) : accN c s 3 = ((c * 64 + ch s 1 % 64) * 64 + ch s 2 % 64) * 64 + ch s 3 % 64 := rfl
theorem seq1 (t : ByteArray) (hs : 1 ≤ t.size) (h : ch t 0 ≤ 127) : seqN t = (ch t 0, 1) := by
  have e : rsz (ch t 0) = 1 := by unfold rsz; rw [if_pos h]
  unfold seqN
  dsimp only
  rw [e, if_pos (by unfold begB; simp [hs]), if_pos rfl]
theorem seq_low (t : ByteArray) (h : 128 ≤ ch t 0) (h2 : ch t 0 < 194) : seqN t = (0, 0) := by
  have e : rsz (ch t 0) = 0 := by unfold rsz; rw [if_neg (by omega), if_pos h2]
  unfold seqN
  dsimp only
  rw [e, if_neg (by unfold begB; simp)]
theorem seq2 (t : ByteArray) (hs : 2 ≤ t.size) (h : 194 ≤ ch t 0) (h2 : ch t 0 ≤ 223) (h3 : 128 ≤ ch t 1) (h4 : ch t 1 ≤ 191) : seqN t = ((ch t 0 - 192) * 64 + (ch t 1 - 128), 2) := by
  have e : rsz (ch t 0) = 2 := by unfold rsz; rw [if_neg (by omega), if_neg (by omega), if_pos h2]
  have l : rlo (ch t 0) = 128 := by unfold rlo; rw [if_neg (by omega), if_neg (by omega), if_pos h2]
  have u : rhi (ch t 0) = 191 := by unfold rhi; rw [if_neg (by omega), if_neg (by omega), if_pos h2]
  unfold seqN
  dsimp only
  rw [e, l, u, if_pos (by unfold begB; simp [hs, h3, h4]), if_neg (by decide)]
  rw [show (2 : Nat) - 1 = 1 from rfl, show (2 : Nat) ^ (7 - 2) = 32 from rfl, accN_1]
  rw [Prod.mk.injEq]
  exact ⟨by omega, rfl⟩
theorem lo3 (c : Nat) (h : 224 ≤ c) (h2 : c ≤ 239) : rlo c = if c = 224 then 160 else 128 := by
  unfold rlo; rw [if_neg (by omega), if_neg (by omega), if_neg (by omega)]
  split
  · rfl
  · first | rfl | rw [if_pos h2]
theorem hi3 (c : Nat) (h : 224 ≤ c) (h2 : c ≤ 239) : rhi c = if c = 237 then 159 else 191 := by
  unfold rhi; rw [if_neg (by omega), if_neg (by omega), if_neg (by omega)]
  split
  · rfl
  · rw [if_pos (by omega)]
theorem lo4 (c : Nat) (h : 240 ≤ c) (h2 : c ≤ 244) : rlo c = if c = 240 then 144 else 128 := by
  unfold rlo; rw [if_neg (by omega), if_neg (by omega), if_neg (by omega), if_neg (by omega), if_neg (by omega)]
  split
  · rfl
  · first | rfl | rw [if_pos h2]
theorem hi4 (c : Nat) (h : 240 ≤ c) (h2 : c ≤ 244) : rhi c = if c = 244 then 143 else 191 := by
  unfold rhi; rw [if_neg (by omega), if_neg (by omega), if_neg (by omega), if_neg (by omega)]
  by_cases e : c = 244
  · rw [if_neg (by omega), if_pos e, if_pos e]
  · rw [if_pos (by omega), if_neg e]
theorem sz3 (c : Nat) (h : 224 ≤ c) (h2 : c ≤ 239) : rsz c = 3 := by
  unfold rsz; rw [if_neg (by omega), if_neg (by omega), if_neg (by omega), if_pos h2]
theorem sz4 (c : Nat) (h : 240 ≤ c) (h2 : c ≤ 244) : rsz c = 4 := by
  unfold rsz; rw [if_neg (by omega), if_neg (by omega), if_neg (by omega), if_neg (by omega), if_pos h2]
theorem seq3 (t : ByteArray) (hs : 3 ≤ t.size) (h : 224 ≤ ch t 0) (h2 : ch t 0 ≤ 239) (h3 : rlo (ch t 0) ≤ ch t 1) (h4 : ch t 1 ≤ rhi (ch t 0)) (h5 : 128 ≤ ch t 2) (h6 : ch t 2 ≤ 191) :
    seqN t = ((ch t 0 - 224) * 4096 + (ch t 1 - 128) * 64 + (ch t 2 - 128), 3) := by
  have e := sz3 _ h h2
  have l := lo3 _ h h2
  have u := hi3 _ h h2
  have l2 : 128 ≤ ch t 1 := by rw [l] at h3; split at h3 <;> omega
  have u2 : ch t 1 ≤ 191 := by rw [u] at h4; split at h4 <;> omega
  unfold seqN
  dsimp only
  rw [e, if_pos (by unfold begB tailB; simp [hs, h3, h4, h5, h6]), if_neg (by decide)]
  rw [show (3 : Nat) - 1 = 2 from rfl, show (2 : Nat) ^ (7 - 3) = 16 from rfl, accN_2]
  rw [Prod.mk.injEq]
  exact ⟨by omega, rfl⟩
theorem seq4 (t : ByteArray) (hs : 4 ≤ t.size) (h : 240 ≤ ch t 0) (h2 : ch t 0 ≤ 244) (h3 : rlo (ch t 0) ≤ ch t 1) (h4 : ch t 1 ≤ rhi (ch t 0)) (h5 : 128 ≤ ch t 2) (h6 : ch t 2 ≤ 191) (h7 : 128 ≤ ch t 3) (h8 : ch t 3 ≤ 191) :
    seqN t = ((ch t 0 - 240) * 262144 + (ch t 1 - 128) * 4096 + (ch t 2 - 128) * 64 + (ch t 3 - 128), 4) := by
  have e := sz4 _ h h2
  have l := lo4 _ h h2
  have u := hi4 _ h h2
  have l2 : 128 ≤ ch t 1 := by rw [l] at h3; split at h3 <;> omega
  have u2 : ch t 1 ≤ 191 := by rw [u] at h4; split at h4 <;> omega
  unfold seqN
  dsimp only
  rw [e, if_pos (by unfold begB tailB; simp [hs, h3, h4, h5, h6, h7, h8]), if_neg (by decide)]
  rw [show (4 : Nat) - 1 = 3 from rfl, show (2 : Nat) ^ (7 - 4) = 8 from rfl, accN_3]
  rw [Prod.mk.injEq]
  exact ⟨by omega, rfl⟩
theorem seq_bad (t : ByteArray) (h : 224 ≤ ch t 0) (h2 : ch t 0 ≤ 244) (h3 : ch t 1 < rlo (ch t 0) ∨ rhi (ch t 0) < ch t 1) : seqN t = (0, 0) := by
  have e : 2 ≤ rsz (ch t 0) := by
    by_cases hh : ch t 0 ≤ 239
    · rw [sz3 _ h hh]; decide
    · rw [sz4 _ (by omega) h2]; decide
  unfold seqN
  dsimp only
  rw [if_neg ?_]
  unfold begB
  simp only [Bool.and_eq_true, Bool.or_eq_true, decide_eq_true_eq]
  omega
/-- Letters are passed by. -/
theorem fault_skip (ok : Int → Bool) (s : ByteArray) (p : Nat) (hp : p ≤ s.size) (hl : ∀ j, j < p → ch s j ≤ 127 ∧ ok (ch s j) = true) : ∀ a, a ≤ p → faultF ok s (s.size + 1) (p - a) = faultF ok s (s.size + 1) p
  | 0, _ => rfl
  | a + 1, ha => by
    have h := hl (p - (a + 1)) (by omega)
    have c0 : ch (s.extract (p - (a + 1)) s.size) 0 = ch s (p - (a + 1)) := by rw [ch_ext _ _ _ _ (by omega)]; rfl
    have e := seq1 (s.extract (p - (a + 1)) s.size) (by rw [size_ext _ _ _ (Nat.le_refl _)]; omega) (by rw [c0]; exact h.1)
    rw [fault_step ok s _ (by omega), e, if_neg (show ¬ (1 : Nat) = 0 by decide), c0, if_pos h.2]
    show faultF ok s (s.size + 1) (p - (a + 1) + 1) = _
    rw [show p - (a + 1) + 1 = p - a by omega]
    exact fault_skip ok s p hp hl a (by omega)
/-- Letters, a row of k bytes, a letter. -/
theorem fault_at (ok : Int → Bool) (s : ByteArray) (p k n : Nat) (hs : s.size = p + k + 1) (hl : ∀ j, j < p → ch s j ≤ 127 ∧ ok (ch s j) = true) (hz : ch s (p + k) = 122) (hoz : ok 122 = true) (hk : 0 < k) (hq : seqN (s.extract p s.size) = (n, k)) (hn : ok n = true) : faultN ok s = (0, 0) := by
  have h0 := fault_skip ok s p (by omega) hl p (Nat.le_refl _)
  rw [Nat.sub_self] at h0
  unfold faultN
  rw [h0, fault_step ok s p (by omega), hq, if_neg (by show ¬ k = 0; omega), if_pos hn]
  have c0 : ch (s.extract (p + k) s.size) 0 = 122 := by rw [ch_ext _ _ _ _ (by omega)]; exact hz
  have e := seq1 (s.extract (p + k) s.size) (by rw [size_ext _ _ _ (Nat.le_refl _)]; omega) (by rw [c0]; decide)
  show faultF ok s (s.size + 1) (p + k) = _
  rw [fault_step ok s _ (by omega), e, if_neg (show ¬ (1 : Nat) = 0 by decide), c0, if_pos (show ok ((122 : Nat) : Int) = true from hoz)]
  show faultF ok s (s.size + 1) (p + k + 1) = _
  rw [← hs]
  exact fault_end ok s
theorem fault_at_no (ok : Int → Bool) (s : ByteArray) (p k n : Nat) (hs : p < s.size) (hl : ∀ j, j < p → ch s j ≤ 127 ∧ ok (ch s j) = true) (hk : 0 < k) (hq : seqN (s.extract p s.size) = (n, k)) (hn : ok n = false) : faultN ok s = (21, p) := by
  have h0 := fault_skip ok s p (by omega) hl p (Nat.le_refl _)
  rw [Nat.sub_self] at h0
  unfold faultN
  rw [h0, fault_step ok s p hs, hq, if_neg (by show ¬ k = 0; omega), if_neg (by rw [hn]; decide)]
theorem fault_at_bad (ok : Int → Bool) (s : ByteArray) (p : Nat) (hs : p < s.size) (hl : ∀ j, j < p → ch s j ≤ 127 ∧ ok (ch s j) = true) (hq : seqN (s.extract p s.size) = (0, 0)) : faultN ok s = (20, p) := by
  have h0 := fault_skip ok s p (by omega) hl p (Nat.le_refl _)
  rw [Nat.sub_self] at h0
  unfold faultN
  rw [h0, fault_step ok s p hs, hq, if_pos rfl]
end Go.Proofs.YtchfphakhmifmaaGreatDoor
namespace Go.Proofs.YtchfphakhmifmaaGreatDoor

theorem ch_at {S : ByteArray} {P M R : List Nat} (h : lOf S = P ++ M ++ R) (i : Nat) (hi : i < M.length) : ch S (P.length + i) = M.getD i 0 := by
  rw [ch_lOf, h, List.append_assoc]
  simp [List.getD, List.getElem?_append, hi]
  rw [if_neg (by omega)]; rfl
theorem size_of {S : ByteArray} {L : List Nat} (h : lOf S = L) : S.size = L.length := by rw [← h, lOf_length]

theorem find_at : ∀ (N R : List Nat), (∀ x ∈ N, ¬ x = 59) → (N ++ 59 :: R).findIdx (· == 59) = N.length
  | [], R, _ => by simp [List.findIdx_cons]
  | x :: N, R, h => by
    have hx : (x == 59) = false := by rw [beq_eq_false_iff_ne]; exact h x (by simp)
    rw [List.cons_append, List.findIdx_cons, hx, find_at N R (fun y hy => h y (by simp [hy]))]
    rfl
/-- The body of an entity. -/
theorem body_at {S : ByteArray} {Q N R : List Nat} (h : lOf S = Q ++ N ++ 59 :: R) (hN : ∀ x ∈ N, ¬ x = 59) : lOf (bodyS S Q.length) = N ∧ endB S Q.length = true := by
  have hz := size_of h
  simp only [List.length_append, List.length_cons] at hz
  have e : lOf (S.extract Q.length S.size) = N ++ 59 :: R := by
    rw [lOf_extract, h, List.append_assoc, List.drop_left, List.take_of_length_le (by simp; omega)]
  have f : fstN (S.extract Q.length S.size) 59 = N.length := by unfold fstN; rw [e]; exact find_at N R hN
  have z : (S.extract Q.length S.size).size = S.size - Q.length := size_ext S _ _ (Nat.le_refl _)
  constructor
  · unfold bodyS
    rw [lOf_extract, f, e, List.drop_zero, Nat.sub_zero, List.take_left]
  · unfold endB
    rw [f, z]
    simp
    omega
theorem ent_named {S : ByteArray} {P N R : List Nat} (h : lOf S = P ++ (38 :: N ++ [59]) ++ R) (hN : ∀ x ∈ N, ¬ x = 59) (h35 : ¬ N.getD 0 0 = 35) (hne : N ≠ []) (k : List UInt8) (hk : N = k.map UInt8.toNat) (b : Nat) (hb : nameB k = some b) : entAt S P.length = some ([b], P.length + (N.length + 2)) := by
  have h' : lOf S = (P ++ [38]) ++ N ++ 59 :: R := by rw [h]; simp
  obtain ⟨e1, e2⟩ := body_at h' hN
  rw [List.length_append] at e1 e2
  have c1 := ch_at (M := N) (P := P ++ [38]) (R := 59 :: R) h' 0 (by cases N; exact absurd rfl hne; simp)
  rw [List.length_append, Nat.add_zero] at c1
  have e1 : lOf (bodyS S (P.length + 1)) = N := e1
  have e2 : endB S (P.length + 1) = true := e2
  have c1 : ch S (P.length + 1) = N.getD 0 0 := c1
  have e3 : (bodyS S (P.length + 1)).data.toList = k := toNat_map_inj _ _ (by rw [← hk]; exact e1)
  have e4 : (bodyS S (P.length + 1)).size = N.length := by rw [← lOf_length, e1]
  unfold entAt
  rw [if_neg (fun hh => h35 (by rw [← c1]; exact hh.2.1)), if_neg (fun hh => h35 (by rw [← c1]; exact hh.2)), if_pos e2, e3, hb, e4]
  simp
  omega
theorem ent_dec {S : ByteArray} {P N R : List Nat} (h : lOf S = P ++ (38 :: 35 :: N ++ [59]) ++ R) (hN : ∀ x ∈ N, ¬ x = 59) (h120 : ¬ N.getD 0 0 = 120) (hne : N ≠ []) (n : Nat) (hn : numF 10 N 0 = some n) (hx : xmlB (n : Int) = true) : entAt S P.length = some (encN n, P.length + (N.length + 3)) := by
  have h' : lOf S = (P ++ [38, 35]) ++ N ++ 59 :: R := by rw [h]; simp
  have h2 : lOf S = P ++ [38, 35] ++ (N ++ 59 :: R) := by rw [h]; simp
  have hz := size_of h
  simp only [List.length_append, List.length_cons, List.length_nil] at hz
  obtain ⟨e1, e2⟩ := body_at h' hN
  rw [List.length_append] at e1 e2
  have hp : 0 < N.length := by cases N; exact absurd rfl hne; simp
  have c1 := ch_at h2 1 (by decide)
  have c2 := ch_at (M := N) (P := P ++ [38, 35]) (R := 59 :: R) h' 0 hp
  rw [List.length_append, Nat.add_zero] at c2
  have e1 : lOf (bodyS S (P.length + 2)) = N := e1
  have e2 : endB S (P.length + 2) = true := e2
  have c2 : ch S (P.length + 2) = N.getD 0 0 := c2
  have c1 : ch S (P.length + 1) = 35 := c1
  have e4 : (bodyS S (P.length + 2)).size = N.length := by rw [← lOf_length, e1]
  unfold entAt
  rw [if_neg (fun hh => h120 (by rw [← c2]; exact hh.2.2)), if_pos ⟨by omega, c1⟩]
  unfold numAt numS
  rw [if_pos ⟨e2, by omega⟩, e1, hn]
  dsimp only
  rw [if_pos hx, e4, show P.length + (2 + N.length + 1) = P.length + (N.length + 3) by omega]
theorem escC_38 (attr : Bool) : escC attr 38 = [38, 97, 109, 112, 59] := rfl
theorem escC_60 (attr : Bool) : escC attr 60 = [38, 108, 116, 59] := rfl
theorem escC_62 (attr : Bool) : escC attr 62 = [38, 103, 116, 59] := rfl
theorem escC_13 (attr : Bool) : escC attr 13 = [38, 35, 49, 51, 59] := rfl
theorem escC_34 : escC true 34 = [38, 113, 117, 111, 116, 59] := rfl
theorem escC_9 : escC true 9 = [38, 35, 57, 59] := rfl
theorem escC_10 : escC true 10 = [38, 35, 49, 48, 59] := rfl
theorem escC_else (attr : Bool) (c : Nat) (h : ¬ c = 38 ∧ ¬ c = 60 ∧ ¬ c = 62 ∧ ¬ c = 13) (h2 : attr = true → ¬ c = 34 ∧ ¬ c = 9 ∧ ¬ c = 10) : escC attr c = [c] := by
  have e1 : entB c = ⟨#[]⟩ := by unfold entB; rw [if_neg h.1, if_neg h.2.1, if_neg h.2.2.1, if_neg h.2.2.2]
  unfold escC
  rw [e1, if_neg (by decide), if_neg]
  rintro ⟨ht, hz⟩
  obtain ⟨a, b, d⟩ := h2 ht
  have e2 : attB c = ⟨#[]⟩ := by unfold attB; rw [if_neg a, if_neg b, if_neg d]
  rw [e2] at hz
  exact absurd hz (by decide)
/-- The eight ways in which a byte is written. -/
theorem escC_cases (attr : Bool) (c : Nat) : (c = 38) ∨ (c = 60) ∨ (c = 62) ∨ (c = 13) ∨ (attr = true ∧ c = 34) ∨ (attr = true ∧ c = 9) ∨ (attr = true ∧ c = 10) ∨ ((¬ c = 38 ∧ ¬ c = 60 ∧ ¬ c = 62 ∧ ¬ c = 13) ∧ (attr = true → ¬ c = 34 ∧ ¬ c = 9 ∧ ¬ c = 10)) := by
  cases attr
  · by_cases h : c = 38 ∨ c = 60 ∨ c = 62 ∨ c = 13
    · rcases h with h | h | h | h <;> simp [h]
    · exact Or.inr (Or.inr (Or.inr (Or.inr (Or.inr (Or.inr (Or.inr ⟨by omega, fun h => by cases h⟩))))))
  · by_cases h : c = 38 ∨ c = 60 ∨ c = 62 ∨ c = 13 ∨ c = 34 ∨ c = 9 ∨ c = 10
    · rcases h with h | h | h | h | h | h | h <;> simp [h]
    · exact Or.inr (Or.inr (Or.inr (Or.inr (Or.inr (Or.inr (Or.inr ⟨by omega, fun _ => by omega⟩))))))
theorem une_item (S : ByteArray) (P R : List Nat) (attr : Bool) (c : Nat) (acc : List Nat) (h : lOf S = P ++ escC attr c ++ R) : uneF S (S.size + 1) P.length acc = uneF S (S.size + 1) (P.length + (escC attr c).length) (acc ++ [c]) := by
  have hz := size_of h
  simp only [List.length_append] at hz
  have hl := (escC_len attr c).2
  have h0 := ch_at h 0 (by omega)
  rw [Nat.add_zero] at h0
  have ent : ∀ b, (escC attr c).getD 0 0 = 38 → entAt S P.length = some ([c], b) → b = P.length + (escC attr c).length → uneF S (S.size + 1) P.length acc = uneF S (S.size + 1) (P.length + (escC attr c).length) (acc ++ [c]) := by
    intro b e0 e1 e2
    rw [une_step S _ acc (by omega), if_pos (by rw [h0, e0]), e1]
    dsimp only
    rw [e2]
  rcases escC_cases attr c with rfl | rfl | rfl | rfl | ⟨rfl, rfl⟩ | ⟨rfl, rfl⟩ | ⟨rfl, rfl⟩ | ⟨k1, k2⟩
  · rw [escC_38] at h ent ⊢
    exact ent _ rfl (ent_named (N := [97, 109, 112]) h (by decide) (by decide) (by decide) kAmp rfl 38 rfl) rfl
  · rw [escC_60] at h ent ⊢
    exact ent _ rfl (ent_named (N := [108, 116]) h (by decide) (by decide) (by decide) kLt rfl 60 rfl) rfl
  · rw [escC_62] at h ent ⊢
    exact ent _ rfl (ent_named (N := [103, 116]) h (by decide) (by decide) (by decide) kGt rfl 62 rfl) rfl
  · rw [escC_13] at h ent ⊢
    exact ent _ rfl (ent_dec (N := [49, 51]) h (by decide) (by decide) (by decide) 13 rfl (by decide)) rfl
  · rw [escC_34] at h ent ⊢
    exact ent _ rfl (ent_named (N := [113, 117, 111, 116]) h (by decide) (by decide) (by decide) kQuot rfl 34 rfl) rfl
  · rw [escC_9] at h ent ⊢
    exact ent _ rfl (ent_dec (N := [57]) h (by decide) (by decide) (by decide) 9 rfl (by decide)) rfl
  · rw [escC_10] at h ent ⊢
    exact ent _ rfl (ent_dec (N := [49, 48]) h (by decide) (by decide) (by decide) 10 rfl (by decide)) rfl
  · have e := escC_else attr c k1 k2
    rw [e] at h0 hz ⊢
    simp only [List.getD_cons_zero] at h0
    simp only [List.length_cons, List.length_nil] at hz ⊢
    rw [une_step S _ acc (by omega), if_neg (by rw [h0]; exact k1.1), h0]
theorem une_items (S : ByteArray) (attr : Bool) : ∀ (l P acc : List Nat), lOf S = P ++ escL attr l → uneF S (S.size + 1) P.length acc = (acc ++ l, 0, 0)
  | [], P, acc, h => by
    have hz := size_of h
    simp [escL] at hz
    rw [une_end S _ _ (by omega), List.append_nil]
  | c :: l, P, acc, h => by
    have e : escL attr (c :: l) = escC attr c ++ escL attr l := by unfold escL; rw [List.flatMap_cons]
    rw [e] at h
    rw [une_item S P (escL attr l) attr c acc (by rw [h]; simp)]
    have := une_items S attr l (P ++ escC attr c) (acc ++ [c]) (by rw [h]; simp)
    rw [List.length_append] at this
    rw [this]
    simp
theorem esc_clean (attr : Bool) (l : List Nat) (hl : ∀ c ∈ l, c < 256) : ∀ b ∈ escL attr l, b < 256 ∧ ¬ b = 60 ∧ ¬ b = 62 ∧ ¬ b = 13 ∧ (attr = true → ¬ b = 34 ∧ ¬ b = 9 ∧ ¬ b = 10) := by
  intro b hb
  unfold escL at hb
  rw [List.mem_flatMap] at hb
  obtain ⟨c, hc, hb⟩ := hb
  have h256 := hl c hc
  rcases escC_cases attr c with rfl | rfl | rfl | rfl | ⟨rfl, rfl⟩ | ⟨rfl, rfl⟩ | ⟨rfl, rfl⟩ | ⟨k1, k2⟩
  · rw [escC_38] at hb; simp at hb; omega
  · rw [escC_60] at hb; simp at hb; omega
  · rw [escC_62] at hb; simp at hb; omega
  · rw [escC_13] at hb; simp at hb; omega
  · rw [escC_34] at hb; simp at hb; omega
  · rw [escC_9] at hb; simp at hb; omega
  · rw [escC_10] at hb; simp at hb; omega
  · rw [escC_else attr c k1 k2] at hb
    simp at hb
    subst hb
    exact ⟨h256, k1.2.1, k1.2.2.1, k1.2.2.2, k2⟩
theorem there_facts (s : ByteArray) (attr : Bool) : uneN (sOf (escL attr (lOf s))) = (lOf s, 0, 0) := by
  have h : lOf (sOf (escL attr (lOf s))) = [] ++ escL attr (lOf s) := by rw [lOf_sOf _ (fun b hb => (esc_clean attr _ (lOf_lt s) b hb).1), List.nil_append]
  exact une_items _ attr _ [] [] h
theorem there_clean (s : ByteArray) (attr : Bool) (i : Nat) (h : i < (sOf (escL attr (lOf s))).size) : ¬ ch (sOf (escL attr (lOf s))) i = 60 ∧ ¬ ch (sOf (escL attr (lOf s))) i = 62 ∧ ¬ ch (sOf (escL attr (lOf s))) i = 13 ∧ (attr = true → ¬ ch (sOf (escL attr (lOf s))) i = 34 ∧ ¬ ch (sOf (escL attr (lOf s))) i = 9 ∧ ¬ ch (sOf (escL attr (lOf s))) i = 10) := by
  rw [sOf_size] at h
  rw [ch_lOf, lOf_sOf _ (fun b hb => (esc_clean attr _ (lOf_lt s) b hb).1)]
  refine (esc_clean attr _ (lOf_lt s) _ ?_).2
  simp [List.getD, h]
end Go.Proofs.YtchfphakhmifmaaGreatDoor
namespace Go.Proofs.YtchfphakhmifmaaGreatDoor

/-- Characters of XML, one behind the other. -/
def VX (l : List Nat) : Prop := ∃ cs : List Nat, (∀ c ∈ cs, xmlB (c : Int) = true) ∧ l = cs.flatMap encN
theorem vx_nil : VX [] := ⟨[], by simp, rfl⟩
theorem vx_app {x y : List Nat} (hx : VX x) (hy : VX y) : VX (x ++ y) := by
  obtain ⟨a, ha, rfl⟩ := hx
  obtain ⟨b, hb, rfl⟩ := hy
  refine ⟨a ++ b, fun c hc => ?_, by rw [List.flatMap_append]⟩
  rcases List.mem_append.1 hc with h | h
  · exact ha c h
  · exact hb c h
theorem enc_low {n : Nat} (h : n < 128) : encN n = [n] := by unfold encN; rw [if_pos h]
theorem enc_high {n : Nat} (h : ¬ n < 128) : encN n ≠ [] ∧ ∀ b ∈ encN n, 128 ≤ b := by
  unfold encN
  rw [if_neg h]
  split
  · exact ⟨by simp, by intro b hb; simp at hb; omega⟩
  · split
    · exact ⟨by simp, by intro b hb; simp at hb; omega⟩
    · exact ⟨by simp, by intro b hb; simp at hb; omega⟩
theorem vx_enc {n : Nat} (h : xmlB (n : Int) = true) : VX (encN n) := ⟨[n], by simpa using h, by simp⟩
theorem vx_one {c : Nat} (h : c < 128) (hx : xmlB (c : Int) = true) : VX [c] := by rw [← enc_low h]; exact vx_enc hx
theorem vx_all {l : List Nat} (h : ∀ c ∈ l, c < 128 ∧ xmlB (c : Int) = true) : VX l := by
  induction l with
  | nil => exact vx_nil
  | cons c l ih =>
    have := vx_app (vx_one (h c (by simp)).1 (h c (by simp)).2) (ih (fun d hd => h d (by simp [hd])))
    simpa using this
theorem vx_split : ∀ {x y : List Nat} {c : Nat}, VX (x ++ c :: y) → c < 128 → VX x ∧ xmlB (c : Int) = true ∧ VX y := by
  intro x y c ⟨cs, hcs, e⟩ hc
  induction cs generalizing x with
  | nil => simp at e
  | cons d cs ih =>
    rw [List.flatMap_cons] at e
    have hd := hcs d (by simp)
    have hr := fun z hz => hcs z (List.mem_cons_of_mem _ hz)
    by_cases hl : (encN d).length ≤ x.length
    · obtain ⟨x', rfl⟩ : ∃ x', x = encN d ++ x' := by
        refine ⟨x.drop (encN d).length, ?_⟩
        have h1 := congrArg (List.take (encN d).length) e
        rw [List.take_append_of_le_length hl, List.take_left] at h1
        conv => lhs; rw [← List.take_append_drop (encN d).length x, h1]
      rw [List.append_assoc, List.append_cancel_left_eq] at e
      obtain ⟨h1, h2, h3⟩ := ih hr e
      exact ⟨vx_app (vx_enc hd) h1, h2, h3⟩
    · have hin : c ∈ encN d := by
        have h1 := congrArg (fun l => l[x.length]?) e
        rw [List.getElem?_append_right (Nat.le_refl _), Nat.sub_self, List.getElem?_cons_zero, List.getElem?_append_left (by omega)] at h1
        exact List.mem_of_getElem? h1.symm
      by_cases h8 : d < 128
      · rw [enc_low h8] at hin hl e
        have : x = [] := by
          cases x with
          | nil => rfl
          | cons _ _ => simp at hl
        subst this
        have hdc : c = d := by simpa using hin
        subst hdc
        simp at e
        exact ⟨vx_nil, hd, ⟨cs, hr, e⟩⟩
      · have := (enc_high h8).2 c hin
        omega
theorem ch_cons {t : ByteArray} {c : Nat} {r : List Nat} (h : lOf t = c :: r) : ch t 0 = c := by rw [ch_lOf, h]; rfl
theorem xml_bd {n : Nat} (h : xmlB (n : Int) = true) : n ≤ 1114111 ∧ (n ≤ 55295 ∨ 57344 ≤ n) := by
  unfold xmlB at h
  simp only [Bool.or_eq_true, Bool.and_eq_true, decide_eq_true_eq] at h
  omega
theorem seq_enc {t : ByteArray} {n : Nat} {r : List Nat} (h : lOf t = encN n ++ r) (hx : xmlB (n : Int) = true) : seqN t = (n, (encN n).length) := by
  have hb := xml_bd hx
  have hz : t.size = (encN n).length + r.length := by rw [← lOf_length, h, List.length_append]
  have hc : ∀ i, i < (encN n).length → ch t i = (encN n).getD i 0 := by
    intro i hi
    rw [ch_lOf, h]
    simp only [List.getD]
    rw [List.getElem?_append_left hi]
  revert hz hc
  unfold encN
  split
  · rename_i h1
    intro hz hc
    have c0 : ch t 0 = n := hc 0 (by simp)
    rw [seq1 t (by rw [hz]; exact Nat.le_add_right _ _) (by omega), c0]; rfl
  · split
    · rename_i h1 h2
      intro hz hc
      have c0 : ch t 0 = 192 + n / 64 := hc 0 (by simp)
      have c1 : ch t 1 = 128 + n % 64 := hc 1 (by simp)
      rw [seq2 t (by rw [hz]; exact Nat.le_add_right _ _) (by omega) (by omega) (by omega) (by omega), c0, c1]
      simp only [List.length_cons, List.length_nil, Prod.mk.injEq]
      exact ⟨by omega, trivial⟩
    · split
      · rename_i h1 h2 h3
        intro hz hc
        have c0 : ch t 0 = 224 + n / 4096 := hc 0 (by simp)
        have c1 : ch t 1 = 128 + n / 64 % 64 := hc 1 (by simp)
        have c2 : ch t 2 = 128 + n % 64 := hc 2 (by simp)
        have l1 := lo3 (ch t 0) (by omega) (by omega)
        have l2 := hi3 (ch t 0) (by omega) (by omega)
        rw [seq3 t (by rw [hz]; exact Nat.le_add_right _ _) (by omega) (by omega) (by rw [l1, c0, c1]; split <;> omega) (by rw [l2, c0, c1]; split <;> omega) (by omega) (by omega), c0, c1, c2]
        simp only [List.length_cons, List.length_nil, Prod.mk.injEq]
        exact ⟨by omega, trivial⟩
      · rename_i h1 h2 h3
        intro hz hc
        have c0 : ch t 0 = 240 + n / 262144 := hc 0 (by simp)
        have c1 : ch t 1 = 128 + n / 4096 % 64 := hc 1 (by simp)
        have c2 : ch t 2 = 128 + n / 64 % 64 := hc 2 (by simp)
        have c3 : ch t 3 = 128 + n % 64 := hc 3 (by simp)
        have l1 := lo4 (ch t 0) (by omega) (by omega)
        have l2 := hi4 (ch t 0) (by omega) (by omega)
        rw [seq4 t (by rw [hz]; exact Nat.le_add_right _ _) (by omega) (by omega) (by rw [l1, c0, c1]; split <;> omega) (by rw [l2, c0, c1]; split <;> omega) (by omega) (by omega) (by omega) (by omega), c0, c1, c2, c3]
        simp only [List.length_cons, List.length_nil, Prod.mk.injEq]
        exact ⟨by omega, trivial⟩
theorem lof_cons (t : ByteArray) (k : Nat) (h : k < t.size) : (lOf t).drop k = ch t k :: (lOf t).drop (k + 1) := by
  have h2 : k < (lOf t).length := by rw [lOf_length]; exact h
  rw [List.drop_eq_getElem_cons h2, ch_lOf]
  simp [List.getD, h2]
theorem seq_dec {t : ByteArray} (h0 : 0 < t.size) (h : (seqN t).2 ≠ 0) : lOf t = encN (seqN t).1 ++ (lOf t).drop (seqN t).2 := by
  have l0 := lof_cons t 0 h0
  rw [List.drop_zero] at l0
  have hb : begB (rsz (ch t 0)) (rlo (ch t 0)) (rhi (ch t 0)) t = true := by
    unfold seqN at h
    dsimp only at h
    split at h
    · assumption
    · exact absurd rfl h
  unfold begB at hb
  simp only [Bool.and_eq_true, Bool.or_eq_true, decide_eq_true_eq] at hb
  obtain ⟨hk, hr⟩ := hb
  by_cases c1 : ch t 0 ≤ 127
  · rw [seq1 t h0 c1, enc_low (by omega)]
    exact l0
  · have hlt : ¬ ch t 0 < 194 := fun hh => h (by rw [seq_low t (by omega) hh])
    have hz : rsz (ch t 0) = 2 ∧ ch t 0 ≤ 223 ∨ rsz (ch t 0) = 3 ∧ 224 ≤ ch t 0 ∧ ch t 0 ≤ 239 ∨ rsz (ch t 0) = 4 ∧ 240 ≤ ch t 0 ∧ ch t 0 ≤ 244 ∨ rsz (ch t 0) = 0 := by
      unfold rsz
      rw [if_neg c1, if_neg hlt]
      split
      · omega
      · split
        · omega
        · split <;> omega
    rcases hz with ⟨e, hc⟩ | ⟨e, hc, hc2⟩ | ⟨e, hc, hc2⟩ | e
    · rw [e] at hk hr
      have l1 := lof_cons t 1 (by omega)
      have r1 : rlo (ch t 0) = 128 := by unfold rlo; rw [if_neg c1, if_neg hlt, if_pos hc]
      have r2 : rhi (ch t 0) = 191 := by unfold rhi; rw [if_neg c1, if_neg hlt, if_pos hc]
      rw [r1, r2] at hr
      have q := seq2 t hk (by omega) hc (by omega) (by omega)
      rw [q]
      dsimp only
      have en : encN ((ch t 0 - 192) * 64 + (ch t 1 - 128)) = [ch t 0, ch t 1] := by
        unfold encN
        rw [if_neg (by omega), if_pos (by omega), List.cons.injEq, List.cons.injEq]
        exact ⟨by omega, by omega, rfl⟩
      rw [en, List.cons_append, List.cons_append, List.nil_append, ← l1]
      exact l0
    · rw [e] at hk hr
      have l1 := lof_cons t 1 (by omega)
      have l2 := lof_cons t 2 (by omega)
      have g1 := lo3 _ hc hc2
      have g2 := hi3 _ hc hc2
      have hr' : rlo (ch t 0) ≤ ch t 1 ∧ ch t 1 ≤ rhi (ch t 0) ∧ tailB (ch t 2) = true := by
        rcases hr with hr | hr
        · omega
        · exact ⟨hr.1.1.1.2, hr.1.1.2, by rcases hr.1.2 with h | h; · omega
                                          · exact h⟩
      obtain ⟨a1, a2, a3⟩ := hr'
      unfold tailB at a3
      simp only [Bool.and_eq_true, decide_eq_true_eq] at a3
      have q := seq3 t hk hc hc2 a1 a2 a3.1 a3.2
      rw [q]
      dsimp only
      rw [g1] at a1
      rw [g2] at a2
      have b1 : 128 ≤ ch t 1 := by split at a1 <;> omega
      have b2 : ch t 1 ≤ 191 := by split at a2 <;> omega
      have b3 : ch t 0 = 224 → 160 ≤ ch t 1 := fun hh => by rwa [if_pos hh] at a1
      have en : encN ((ch t 0 - 224) * 4096 + (ch t 1 - 128) * 64 + (ch t 2 - 128)) = [ch t 0, ch t 1, ch t 2] := by
        unfold encN
        rw [if_neg (by omega), if_neg (by omega), if_pos (by omega), List.cons.injEq, List.cons.injEq, List.cons.injEq]
        exact ⟨by omega, by omega, by omega, rfl⟩
      rw [en, List.cons_append, List.cons_append, List.cons_append, List.nil_append, ← l2, ← l1]
      exact l0
    · rw [e] at hk hr
      have l1 := lof_cons t 1 (by omega)
      have l2 := lof_cons t 2 (by omega)
      have l3 := lof_cons t 3 (by omega)
      have g1 := lo4 _ hc hc2
      have g2 := hi4 _ hc hc2
      have hr' : rlo (ch t 0) ≤ ch t 1 ∧ ch t 1 ≤ rhi (ch t 0) ∧ tailB (ch t 2) = true ∧ tailB (ch t 3) = true := by
        rcases hr with hr | hr
        · omega
        · exact ⟨hr.1.1.1.2, hr.1.1.2, by rcases hr.1.2 with h | h; · omega
                                          · exact h, by rcases hr.2 with h | h; · omega
                                                        · exact h⟩
      obtain ⟨a1, a2, a3, a4⟩ := hr'
      unfold tailB at a3 a4
      simp only [Bool.and_eq_true, decide_eq_true_eq] at a3 a4
      have q := seq4 t hk hc hc2 a1 a2 a3.1 a3.2 a4.1 a4.2
      rw [q]
      dsimp only
      rw [g1] at a1
      rw [g2] at a2
      have b1 : 128 ≤ ch t 1 := by split at a1 <;> omega
      have b2 : ch t 1 ≤ 191 := by split at a2 <;> omega
      have b3 : ch t 0 = 240 → 144 ≤ ch t 1 := fun hh => by rwa [if_pos hh] at a1
      have en : encN ((ch t 0 - 240) * 262144 + (ch t 1 - 128) * 4096 + (ch t 2 - 128) * 64 + (ch t 3 - 128)) = [ch t 0, ch t 1, ch t 2, ch t 3] := by
        unfold encN
        rw [if_neg (by omega), if_neg (by omega), if_neg (by omega), List.cons.injEq, List.cons.injEq, List.cons.injEq, List.cons.injEq]
        exact ⟨by omega, by omega, by omega, by omega, rfl⟩
      rw [en, List.cons_append, List.cons_append, List.cons_append, List.cons_append, List.nil_append, ← l3, ← l2, ← l1]
      exact l0
    · exfalso
      rw [e] at hr
      omega
theorem lof_from (s : ByteArray) (a : Nat) : lOf (s.extract a s.size) = (lOf s).drop a := by
  rw [lOf_extract, List.take_of_length_le (by rw [List.length_drop, lOf_length]; omega)]
/-- No fault from a place on: characters of XML. -/
theorem fault_vx (s : ByteArray) : ∀ (n a : Nat), s.size - a < n → a ≤ s.size → ((faultF xmlB s (s.size + 1) a).1 = 0 ↔ VX ((lOf s).drop a))
  | 0, a, hn, _ => by omega
  | n + 1, a, hn, ha => by
    by_cases h : s.size ≤ a
    · have e : (lOf s).drop a = [] := List.drop_eq_nil_of_le (by rw [lOf_length]; exact h)
      rw [faultF, if_pos h, e]
      exact ⟨fun _ => vx_nil, fun _ => rfl⟩
    · have hz : (s.extract a s.size).size = s.size - a := size_ext s a s.size (Nat.le_refl _)
      rw [fault_step xmlB s a (by omega)]
      constructor
      · intro hf
        by_cases h2 : (seqN (s.extract a s.size)).2 = 0
        · rw [if_pos h2] at hf; exact absurd hf (by simp)
        · rw [if_neg h2] at hf
          by_cases hx : xmlB ((seqN (s.extract a s.size)).1 : Int) = true
          · rw [if_pos hx] at hf
            have hd := seq_dec (by omega) h2
            have hle := seqN_size_le (s.extract a s.size)
            have ih := (fault_vx s n (a + (seqN (s.extract a s.size)).2) (by omega) (by omega)).1 hf
            rw [lof_from] at hd
            rw [hd, List.drop_drop]
            exact vx_app (vx_enc hx) ih
          · rw [if_neg hx] at hf; exact absurd hf (by simp)
      · rintro ⟨cs, hcs, e⟩
        cases cs with
        | nil =>
          have := congrArg List.length e
          rw [List.length_drop, lOf_length] at this
          simp at this
          omega
        | cons c cs =>
          have hx := hcs c (by simp)
          rw [List.flatMap_cons, ← lof_from] at e
          have q := seq_enc e hx
          have hl : 0 < (encN c).length := by
            by_cases h8 : c < 128
            · rw [enc_low h8]; simp
            · exact List.length_pos_iff.2 (enc_high h8).1
          rw [q]
          dsimp only
          rw [if_neg (by omega), if_pos hx]
          have hle := congrArg List.length e
          rw [lOf_length, hz, List.length_append] at hle
          refine (fault_vx s n (a + (encN c).length) (by omega) (by omega)).2 ⟨cs, fun z hz => hcs z (by simp [hz]), ?_⟩
          rw [← List.drop_drop, ← lof_from, e, List.drop_left]
theorem chars_iff (s : ByteArray) : (faultN xmlB s).1 = 0 ↔ VX (lOf s) := by
  have := fault_vx s (s.size + 1) 0 (by omega) (Nat.zero_le _)
  rwa [List.drop_zero] at this
end Go.Proofs.YtchfphakhmifmaaGreatDoor
namespace Go.Proofs.YtchfphakhmifmaaGreatDoor

theorem body_end {s : ByteArray} {q : Nat} (hq : q ≤ s.size) (h : endB s q = true) : q + (bodyS s q).size < s.size ∧ ch s (q + (bodyS s q).size) = 59 := by
  have hb := bodyS_size s q
  have hz : (s.extract q s.size).size = s.size - q := size_ext s q s.size (Nat.le_refl _)
  have hl := (hb.2 hq).2 h
  unfold endB at h
  have hf := fst_at (s.extract q s.size) 59 (of_decide_eq_true h)
  rw [ch_ext s q s.size _ (by rw [← hb.1]; omega), ← hb.1] at hf
  exact ⟨hl, hf⟩
theorem num_vx {base : Nat} {s : ByteArray} {a k : Nat} (ha : a + k ≤ s.size) (hk : 1 ≤ k) {M : List Nat} {b : Nat} (h : numAt base s a k = some (M, b)) : VX M ∧ M ≠ [] ∧ a + 1 < b ∧ ch s (b - 1) = 59 := by
  unfold numAt at h
  split at h
  · rename_i hc
    split at h
    · rename_i n hn
      split at h
      · rename_i hx
        injection h with h
        injection h with h1 h2
        have he := body_end ha hc.1
        refine ⟨by rw [← h1]; exact vx_enc hx, by rw [← h1]; exact (encN_ne n).1, by omega, ?_⟩
        rw [← h2, show a + (k + (bodyS s (a + k)).size + 1) - 1 = a + k + (bodyS s (a + k)).size by omega]
        exact he.2
      · cases h
    · cases h
  · cases h
theorem name_vx {l : List UInt8} {b : Nat} (h : nameB l = some b) : b < 128 ∧ xmlB (b : Int) = true := by
  unfold nameB at h
  repeat (split at h; · injection h with h; rw [← h]; decide)
  cases h
theorem ent_vx {s : ByteArray} {a : Nat} (ha : a < s.size) {M : List Nat} {b : Nat} (h : entAt s a = some (M, b)) : VX M ∧ M ≠ [] ∧ a + 1 < b ∧ ch s (b - 1) = 59 := by
  unfold entAt at h
  split at h
  · exact num_vx (by omega) (by decide) h
  · split at h
    · exact num_vx (by omega) (by decide) h
    · split at h
      · rename_i he
        split at h
        · rename_i c hc
          injection h with h
          injection h with h1 h2
          have hn := name_vx hc
          have hb := body_end (by omega) he
          refine ⟨by rw [← h1]; exact vx_one hn.1 hn.2, by rw [← h1]; simp, by omega, ?_⟩
          rw [← h2, show a + (1 + (bodyS s (a + 1)).size + 1) - 1 = a + 1 + (bodyS s (a + 1)).size by omega]
          exact hb.2
        · cases h
      · cases h
/-- What Unescape makes of characters of XML: such, no more bytes than it was given, none only of none. -/
theorem une_vx (s : ByteArray) : ∀ (n a : Nat) (acc t : List Nat), s.size - a < n → a ≤ s.size → uneF s (s.size + 1) a acc = (t, 0, 0) → VX (acc ++ (lOf s).drop a) → VX t ∧ t.length ≤ acc.length + (s.size - a) ∧ acc.length ≤ t.length ∧ (a < s.size → acc.length < t.length)
  | 0, a, _, _, hn, _, _, _ => by omega
  | n + 1, a, acc, t, hn, ha, hu, hv => by
    by_cases h : s.size ≤ a
    · rw [une_end s a acc h] at hu
      injection hu with hu
      rw [List.drop_eq_nil_of_le (by rw [lOf_length]; exact h), List.append_nil] at hv
      rw [← hu]
      exact ⟨hv, by omega, Nat.le_refl _, fun hh => by omega⟩
    · rw [une_step s a acc (by omega)] at hu
      have hc := lof_cons s a (by omega)
      split at hu
      · rename_i h38
        split at hu
        · rename_i M b he
          have hbd := entAt_bd (by omega) he
          obtain ⟨hM, hne, hb1, h59⟩ := ent_vx (by omega) he
          rw [hc, h38] at hv
          obtain ⟨v1, _, v2⟩ := vx_split hv (by decide)
          have hc2 := lof_cons s (b - 1) (by omega)
          rw [show b - 1 + 1 = b by omega, h59] at hc2
          have e : (lOf s).drop (a + 1) = ((lOf s).drop (a + 1)).take (b - 1 - (a + 1)) ++ 59 :: (lOf s).drop b := by
            conv => lhs; rw [← List.take_append_drop (b - 1 - (a + 1)) ((lOf s).drop (a + 1))]
            rw [List.drop_drop, show a + 1 + (b - 1 - (a + 1)) = b - 1 by omega, hc2]
          rw [e] at v2
          obtain ⟨_, _, v3⟩ := vx_split v2 (by decide)
          have ih := une_vx s n b (acc ++ M) t (by omega) (by omega) hu (by rw [List.append_assoc]; exact vx_app v1 (vx_app hM v3))
          rw [List.length_append] at ih
          have hl : 0 < M.length := List.length_pos_iff.2 hne
          exact ⟨ih.1, by omega, by omega, fun _ => by omega⟩
        · cases hu
      · have ih := une_vx s n (a + 1) (acc ++ [ch s a]) t (by omega) (by omega) hu (by rw [List.append_assoc]; rw [hc] at hv; exact hv)
        rw [List.length_append, List.length_singleton] at ih
        exact ⟨ih.1, by omega, by omega, fun _ => by omega⟩
theorem esc_low {attr : Bool} {c : Nat} (h : c < 128) (hx : xmlB (c : Int) = true) : VX (escC attr c) := by
  rcases escC_cases attr c with h1 | h1 | h1 | h1 | h1 | h1 | h1 | h1
  · subst h1; rw [escC_38]; exact vx_all (by decide)
  · subst h1; rw [escC_60]; exact vx_all (by decide)
  · subst h1; rw [escC_62]; exact vx_all (by decide)
  · subst h1; rw [escC_13]; exact vx_all (by decide)
  · obtain ⟨rfl, rfl⟩ := h1; rw [escC_34]; exact vx_all (by decide)
  · obtain ⟨rfl, rfl⟩ := h1; rw [escC_9]; exact vx_all (by decide)
  · obtain ⟨rfl, rfl⟩ := h1; rw [escC_10]; exact vx_all (by decide)
  · rw [escC_else attr c h1.1 h1.2]; exact vx_one h hx
theorem esc_same {attr : Bool} {l : List Nat} (h : ∀ c ∈ l, 128 ≤ c) : escL attr l = l := by
  induction l with
  | nil => rfl
  | cons c l ih =>
    have hc := h c (by simp)
    unfold escL at ih ⊢
    rw [List.flatMap_cons, ih (fun d hd => h d (by simp [hd])), escC_else attr c (by omega) (by omega)]
    rfl
theorem esc_vx {attr : Bool} {l : List Nat} (h : VX l) : VX (escL attr l) := by
  obtain ⟨cs, hcs, rfl⟩ := h
  induction cs with
  | nil => exact vx_nil
  | cons c cs ih =>
    have e : escL attr (List.flatMap encN (c :: cs)) = escL attr (encN c) ++ escL attr (List.flatMap encN cs) := by
      unfold escL; rw [List.flatMap_cons, List.flatMap_append]
    rw [e]
    refine vx_app ?_ (ih fun z hz => hcs z (by simp [hz]))
    have hx := hcs c (by simp)
    by_cases h8 : c < 128
    · rw [enc_low h8]
      have := esc_low (attr := attr) h8 hx
      unfold escL
      rwa [List.flatMap_singleton]
    · rw [esc_same (enc_high h8).2]
      exact vx_enc hx
/-- A name's bytes. -/
theorem name_ch {s : ByteArray} (h : xmlNameB s = true) : 0 < s.size ∧ ∀ i, i < s.size → nxml (ch s i) (decide (i = 0)) = true := of_decide_eq_true h
theorem nxml_bd {c : Nat} {f : Bool} (h : nxml c f = true) : 45 ≤ c ∧ c ≤ 122 ∧ c ≠ 47 ∧ c ≠ 60 ∧ c ≠ 61 ∧ c ≠ 62 ∧ c ≠ 63 ∧ xmlB (c : Int) = true := by
  have h2 : 45 ≤ c ∧ c ≤ 122 ∧ c ≠ 47 ∧ c ≠ 60 ∧ c ≠ 61 ∧ c ≠ 62 ∧ c ≠ 63 := by
    unfold nxml nlet ndig at h
    simp only [Bool.or_eq_true, Bool.and_eq_true, decide_eq_true_eq] at h
    omega
  refine ⟨h2.1, h2.2.1, h2.2.2.1, h2.2.2.2.1, h2.2.2.2.2.1, h2.2.2.2.2.2.1, h2.2.2.2.2.2.2, ?_⟩
  unfold xmlB
  simp only [Bool.or_eq_true, Bool.and_eq_true, decide_eq_true_eq]
  omega
theorem name_mem {s : ByteArray} (h : xmlNameB s = true) : ∀ c ∈ lOf s, 45 ≤ c ∧ c ≤ 122 ∧ c ≠ 47 ∧ c ≠ 60 ∧ c ≠ 61 ∧ c ≠ 62 ∧ c ≠ 63 ∧ xmlB (c : Int) = true := by
  intro c hc
  obtain ⟨i, hi, e⟩ := List.mem_iff_getElem.1 hc
  have hs : i < s.size := by rw [← lOf_length]; exact hi
  have := nxml_bd ((name_ch h).2 i hs)
  rw [ch_lOf] at this
  simp only [List.getD, List.getElem?_eq_getElem hi, Option.getD_some, e] at this
  exact this
theorem name_xml {s : ByteArray} (h : xmlNameB s = true) : VX (lOf s) := vx_all fun c hc => ⟨by have := name_mem h c hc; omega, (name_mem h c hc).2.2.2.2.2.2.2⟩
end Go.Proofs.YtchfphakhmifmaaGreatDoor
namespace Go.Proofs.YtchfphakhmifmaaGreatDoor
open Go.Lib Go

/-- A text's bytes from a place on. -/
abbrev Dr (s : ByteArray) (a : Nat) : List UInt8 := s.data.toList.drop a
theorem dr_cons {s : ByteArray} {a : Nat} {c : UInt8} {l : List UInt8} (h : Dr s a = c :: l) : a < s.size ∧ ch s a = c.toNat ∧ Dr s (a + 1) = l := by
  have hl := congrArg List.length h
  rw [List.length_drop, tl_len, List.length_cons] at hl
  unfold Dr at h ⊢
  have h1 : s.data.toList[a]? = some c := by
    have := congrArg (fun l => l[0]?) h
    rwa [List.getElem?_drop, Nat.add_zero] at this
  refine ⟨by omega, by unfold ch; simp only [List.getD]; rw [h1]; rfl, ?_⟩
  rw [← List.drop_drop, h]; rfl
theorem dr_at {s : ByteArray} {a : Nat} {c : UInt8} {l : List UInt8} (n : Nat) (h : Dr s a = c :: l) (hn : c.toNat = n) : a < s.size ∧ ch s a = n ∧ Dr s (a + 1) = l := by rw [← hn]; exact dr_cons h
theorem dr_app {s : ByteArray} {a : Nat} {x y : List UInt8} (h : Dr s a = x ++ y) : Dr s (a + x.length) = y := by
  unfold Dr at h ⊢
  rw [← List.drop_drop, h, List.drop_left]
theorem dr_le {s : ByteArray} {a : Nat} {x y : List UInt8} (ha : a ≤ s.size) (h : Dr s a = x ++ y) : a + x.length ≤ s.size := by
  have hl := congrArg List.length h
  rw [List.length_drop, tl_len, List.length_append] at hl
  omega
theorem dr_nil {s : ByteArray} {a : Nat} (h : Dr s a = []) : s.size ≤ a := by
  have hl := congrArg List.length h
  rw [List.length_drop, tl_len, List.length_nil] at hl
  omega
theorem dr_ext {s : ByteArray} {a : Nat} {v : ByteArray} {y : List UInt8} (h : Dr s a = v.data.toList ++ y) : s.extract a (a + v.size) = v := by
  apply ba_ext
  unfold Dr at h
  rw [list_ext, h, Nat.add_sub_cancel_left, ← tl_len v, List.take_left]
theorem find_hit {p : UInt8 → Bool} {x y : List UInt8} {c : UInt8} (hx : ∀ b ∈ x, p b = false) (hc : p c = true) : (x ++ c :: y).findIdx p = x.length := by
  induction x with
  | nil => rw [List.nil_append, List.findIdx_cons, hc]; rfl
  | cons b x ih =>
    rw [List.cons_append, List.findIdx_cons, hx b (by simp), ih (fun d hd => hx d (by simp [hd]))]
    rfl
theorem find_none {p : UInt8 → Bool} {x : List UInt8} (hx : ∀ b ∈ x, p b = false) : x.findIdx p = x.length := by
  induction x with
  | nil => rfl
  | cons b x ih =>
    rw [List.findIdx_cons, hx b (by simp), ih (fun d hd => hx d (by simp [hd]))]
    rfl
theorem upN_hit {E : List UInt8} {s : ByteArray} {a : Nat} {x y : List UInt8} {c : UInt8} (h : Dr s a = x ++ c :: y) (hx : ∀ b ∈ x, E.contains b = false) (hc : E.contains c = true) : upN E s a = a + x.length := by
  unfold upN
  unfold Dr at h
  rw [h, find_hit hx hc]
theorem upN_none {E : List UInt8} {s : ByteArray} {a : Nat} {x : List UInt8} (h : Dr s a = x) (hx : ∀ b ∈ x, E.contains b = false) : upN E s a = a + x.length := by
  unfold upN
  unfold Dr at h
  rw [h, find_none hx]
theorem skN_hit {s : ByteArray} {a : Nat} {y : List UInt8} {c : UInt8} (h : Dr s a = c :: y) (hc : BLs.contains c = false) : skN s a = a := by
  unfold skN
  unfold Dr at h
  rw [h, List.findIdx_cons, hc]
  rfl
theorem skN_one {s : ByteArray} {a : Nat} {y : List UInt8} {b c : UInt8} (h : Dr s a = b :: c :: y) (hb : BLs.contains b = true) (hc : BLs.contains c = false) : skN s a = a + 1 := by
  unfold skN
  unfold Dr at h
  rw [h, List.findIdx_cons, hb, List.findIdx_cons, hc]
  rfl
theorem name_byte {nm : ByteArray} (h : xmlNameB nm = true) {b : UInt8} (hb : b ∈ nm.data.toList) : 45 ≤ b.toNat ∧ b.toNat ≤ 122 ∧ b.toNat ≠ 47 ∧ b.toNat ≠ 60 ∧ b.toNat ≠ 61 ∧ b.toNat ≠ 62 ∧ b.toNat ≠ 63 := by
  have := name_mem h b.toNat (List.mem_map.2 ⟨b, hb, rfl⟩)
  omega
theorem byte_ne {b c : UInt8} (h : b.toNat ≠ c.toNat) : (b == c) = false := by
  rw [beq_eq_false_iff_ne]
  exact fun e => h (by rw [e])
theorem name_NE {b : UInt8} (h : 45 ≤ b.toNat ∧ b.toNat ≤ 122 ∧ b.toNat ≠ 47 ∧ b.toNat ≠ 60 ∧ b.toNat ≠ 61 ∧ b.toNat ≠ 62 ∧ b.toNat ≠ 63) : NEb.data.toList.contains b = false ∧ BLs.contains b = false := by
  have e : ∀ c : UInt8, b.toNat ≠ c.toNat → (b == c) = false := fun c hc => byte_ne hc
  constructor
  · show List.contains [9, 10, 13, 32, 60, 62, 47, 61, 34, 39, 38] b = false
    simp only [List.contains_cons, List.contains_nil, Bool.or_false, Bool.or_eq_false_iff]
    refine ⟨e _ ?_, e _ ?_, e _ ?_, e _ ?_, e _ ?_, e _ ?_, e _ ?_, e _ ?_, e _ ?_, e _ ?_, e _ ?_⟩ <;> simp <;> omega
  · show List.contains [9, 10, 13, 32] b = false
    simp only [List.contains_cons, List.contains_nil, Bool.or_false, Bool.or_eq_false_iff]
    refine ⟨e _ ?_, e _ ?_, e _ ?_, e _ ?_⟩ <;> simp <;> omega
/-- A name begins with a byte of its own. -/
theorem name_cons {nm : ByteArray} (h : xmlNameB nm = true) : ∃ b r, nm.data.toList = b :: r ∧ 45 ≤ b.toNat ∧ b.toNat ≤ 122 ∧ b.toNat ≠ 47 ∧ b.toNat ≠ 60 ∧ b.toNat ≠ 61 ∧ b.toNat ≠ 62 ∧ b.toNat ≠ 63 := by
  have h0 := (name_ch h).1
  cases e : nm.data.toList with
  | nil => rw [← tl_len, e] at h0; exact absurd h0 (by decide)
  | cons b r => exact ⟨b, r, rfl, name_byte h (by rw [e]; simp)⟩
theorem nameZ_at {s nm : ByteArray} {a : Nat} {c : UInt8} {y : List UInt8} (h : Dr s a = nm.data.toList ++ c :: y) (hn : xmlNameB nm = true) (hc : NEb.data.toList.contains c = true) : nameZ s a = .val nm (a + nm.size) := by
  have hu : upN NEb.data.toList s a = a + nm.size := by
    rw [upN_hit h (fun b hb => (name_NE (name_byte hn hb)).1) hc, tl_len]
  obtain ⟨b, r, e, _⟩ := name_cons hn
  have ha : a < s.size := by rw [e] at h; exact (dr_cons h).1
  unfold nameZ
  rw [if_neg (by omega), hu, dr_ext h, if_pos hn]
theorem expZ_at {s : ByteArray} {a : Nat} {c : UInt8} {y : List UInt8} (h : Dr s a = c :: y) : expZ s a c.toNat = none := by
  obtain ⟨h1, h2, _⟩ := dr_cons h
  unfold expZ
  rw [if_neg (by omega), if_pos h2]
theorem p_open {s nm : ByteArray} {a : Nat} {c : UInt8} {y : List UInt8} (h : Dr s a = 60 :: (nm.data.toList ++ c :: y)) (hn : xmlNameB nm = true) (hc : NEb.data.toList.contains c = true) :
    pieceZ s (some 83) a = .told (some 135) (a + 1 + nm.size) ⟨0, nm, E0, a⟩ := by
  obtain ⟨h1, h2, h3⟩ := dr_at 60 h rfl
  obtain ⟨b, r, e, hb⟩ := name_cons hn
  have h4 := h3
  rw [e] at h4
  obtain ⟨g1, g2, _⟩ := dr_cons h4
  have hz : contentZ s a = .go (some 113) a none := by
    unfold contentZ
    rw [if_neg (by omega), if_pos h2, if_neg (by omega), if_neg (by omega), if_neg (by omega)]
  have hz2 : startZ s a = .go (some 135) (a + 1 + nm.size) (some ⟨0, nm, E0, a⟩) := by
    unfold startZ
    rw [nameZ_at h3 hn hc]
  show runZ s 2 _ a = _
  simp only [runZ, stepZ_content, hz, stepZ_startTag, hz2]
theorem p_end {s : ByteArray} {a : Nat} {y : List UInt8} (h : Dr s a = 62 :: y) :
    pieceZ s (some 135) a = .told (some 83) (a + 1) ⟨2, E0, E0, a⟩ := by
  obtain ⟨h1, h2, h3⟩ := dr_at 62 h rfl
  have hz : inTagZ s a = .go (some 151) a none := by
    unfold inTagZ
    rw [skN_hit h (by decide), if_neg (by omega), if_pos h2]
  show runZ s 2 _ a = _
  simp only [runZ, stepZ_inTag, hz, stepZ_tagEnd, tagEndZ]
theorem p_empty {s : ByteArray} {a : Nat} {y : List UInt8} (h : Dr s a = 47 :: 62 :: y) :
    pieceZ s (some 135) a = .told (some 83) (a + 1 + 1) ⟨3, E0, E0, a⟩ := by
  obtain ⟨h1, h2, h3⟩ := dr_at 47 h rfl
  have hz : inTagZ s a = .go (some 152) a none := by
    unfold inTagZ
    rw [skN_hit h (by decide), if_neg (by omega), if_neg (by rw [h2]; decide), if_pos h2]
  have hz2 : emptyEndZ s a = .go (some 83) (a + 1 + 1) (some ⟨3, E0, E0, a⟩) := by
    unfold emptyEndZ
    rw [show (62 : Nat) = (62 : UInt8).toNat from rfl, expZ_at h3]
  show runZ s 2 _ a = _
  simp only [runZ, stepZ_inTag, hz, stepZ_emptyEnd, hz2]
theorem p_close {s nm : ByteArray} {a : Nat} {y : List UInt8} (h : Dr s a = 60 :: 47 :: (nm.data.toList ++ 62 :: y)) (hn : xmlNameB nm = true) :
    pieceZ s (some 83) a = .told (some 83) (a + 2 + nm.size + 1) ⟨4, nm, E0, a⟩ := by
  obtain ⟨h1, h2, h3⟩ := dr_at 60 h rfl
  obtain ⟨g1, g2, g3⟩ := dr_at 47 h3 rfl
  have hz : contentZ s a = .go (some 111) a none := by
    unfold contentZ
    rw [if_neg (by omega), if_pos h2, if_pos ⟨g1, g2⟩]
  have h5 : Dr s (a + 2 + nm.size) = 62 :: y := by rw [← tl_len]; exact dr_app g3
  have hz2 : endZ s a = .go (some 83) (a + 2 + nm.size + 1) (some ⟨4, nm, E0, a⟩) := by
    unfold endZ
    rw [nameZ_at g3 hn (by decide)]
    dsimp only
    rw [skN_hit h5 (by decide), show (62 : Nat) = (62 : UInt8).toNat from rfl, expZ_at h5]
  show runZ s 2 _ a = _
  simp only [runZ, stepZ_content, hz, stepZ_endTag, hz2]
theorem plain_esc (attr : Bool) (vl : ByteArray) (p : Nat) : plainZ (escB attr vl) p = (none, vl) := by
  unfold plainZ escB
  rw [there_facts]
  simp only [if_true, sOf_lOf]
theorem esc_byte (attr : Bool) (vl : ByteArray) {b : UInt8} (hb : b ∈ (escB attr vl).data.toList) : b.toNat ≠ 60 ∧ (attr = true → b.toNat ≠ 34) := by
  unfold escB sOf at hb
  simp only [List.mem_map] at hb
  obtain ⟨c, hc, rfl⟩ := hb
  have := esc_clean attr (lOf vl) (lOf_lt vl) c hc
  have e : (UInt8.ofNat c).toNat = c := by simp [UInt8.toNat_ofNat']; omega
  rw [e]
  exact ⟨this.2.1, fun h => (this.2.2.2.2 h).1⟩
theorem p_attr {s nm vl : ByteArray} {a : Nat} {y : List UInt8} (h : Dr s a = 32 :: (nm.data.toList ++ 61 :: 34 :: ((escB true vl).data.toList ++ 34 :: y))) (hn : xmlNameB nm = true) :
    pieceZ s (some 135) a = .told (some 135) (a + 1 + nm.size + 2 + (escB true vl).size + 1) ⟨1, nm, vl, a + 1⟩ := by
  obtain ⟨b, r, e, hb⟩ := name_cons hn
  have h' := h
  rw [e] at h'
  have hs := skN_one h' (by decide) (name_NE hb).2
  obtain ⟨h1, h2, h3⟩ := dr_at 32 h rfl
  have h4 := h3
  rw [e] at h4
  obtain ⟨g1, g2, _⟩ := dr_cons h4
  have hz : inTagZ s a = .go (some 153) (a + 1) none := by
    unfold inTagZ
    rw [hs, if_neg (by omega), if_neg (by omega), if_neg (by omega), if_pos (by omega)]
  have h5 : Dr s (a + 1 + nm.size) = 61 :: 34 :: ((escB true vl).data.toList ++ 34 :: y) := by rw [← tl_len]; exact dr_app h3
  obtain ⟨i1, i2, i3⟩ := dr_at 61 h5 rfl
  obtain ⟨j1, j2, j3⟩ := dr_at 34 i3 rfl
  have k1 : Dr s (a + 1 + nm.size + 1 + 1 + (escB true vl).size) = 34 :: y := by
    have := dr_app j3
    rwa [tl_len] at this
  obtain ⟨l1, l2, l3⟩ := dr_at 34 k1 rfl
  have hu : upN [60, 34] s (a + 1 + nm.size + 1 + 1) = a + 1 + nm.size + 1 + 1 + (escB true vl).size := by
    rw [upN_hit j3 (fun b hb => ?_) (by decide), tl_len]
    have := esc_byte true vl hb
    simp only [List.contains_cons, List.contains_nil, Bool.or_false, Bool.or_eq_false_iff]
    exact ⟨byte_ne this.1, byte_ne (this.2 rfl)⟩
  have hz2 : attrZ s (a + 1) = .go (some 135) (a + 1 + nm.size + 2 + (escB true vl).size + 1) (some ⟨1, nm, vl, a + 1⟩) := by
    unfold attrZ
    rw [nameZ_at h3 hn (by decide)]
    dsimp only
    rw [skN_hit h5 (by decide), show (61 : Nat) = (61 : UInt8).toNat from rfl, expZ_at h5]
    dsimp only
    rw [skN_hit i3 (by decide)]
    unfold valueZ
    rw [if_neg (by omega), if_pos j2]
    unfold valQ
    rw [hu, if_neg (by omega), if_pos (show ch s _ = UInt8.toNat 34 from l2), dr_ext j3, plain_esc]
  show runZ s 2 _ a = _
  simp only [runZ, stepZ_inTag, hz, stepZ_attribute, hz2]
theorem p_text {s vl : ByteArray} {a : Nat} {y : List UInt8} (h : Dr s a = (escB false vl).data.toList ++ y) (hv : (escB false vl).data.toList ≠ []) (hy : y = [] ∨ ∃ y', y = 60 :: y') :
    pieceZ s (some 83) a = .told (some 83) (a + (escB false vl).size) ⟨5, E0, vl, a⟩ := by
  have hno : ∀ b ∈ (escB false vl).data.toList, List.contains [60] b = false := by
    intro b hb
    have := esc_byte false vl hb
    simp only [List.contains_cons, List.contains_nil, Bool.or_false]
    exact byte_ne this.1
  have hu : upN [60] s a = a + (escB false vl).size := by
    rcases hy with rfl | ⟨y', rfl⟩
    · rw [List.append_nil] at h
      rw [upN_none h hno, tl_len]
    · rw [upN_hit h hno (by decide), tl_len]
  obtain ⟨c, r, e⟩ := List.exists_cons_of_ne_nil hv
  have h' := h
  rw [e] at h'
  obtain ⟨h1, h2, _⟩ := dr_cons h'
  have hc : c.toNat ≠ 60 := (esc_byte false vl (by rw [e]; simp)).1
  have hz : contentZ s a = .go (some 110) a none := by
    unfold contentZ
    rw [if_neg (by omega), if_neg (by omega)]
  have hz2 : textZ s a = .go (some 83) (a + (escB false vl).size) (some ⟨5, E0, vl, a⟩) := by
    unfold textZ
    rw [hu, dr_ext h, plain_esc]
  show runZ s 2 _ a = _
  simp only [runZ, stepZ_content, hz, stepZ_text, hz2]
theorem idx_hh : ∀ (l r : List UInt8), index l [45, 45] = -1 → List.isSuffixOf [45] l = false → index (l ++ 45 :: 45 :: r) [45, 45] = l.length
  | [], r, _, _ => by simp [index]
  | b :: l, r, h, hs => by
    rw [index] at h
    split at h
    · exact absurd h (by decide)
    · rename_i hp
      have hl : index l [45, 45] = -1 := by
        split at h
        · rename_i he; exact eq_of_beq he
        · have := index_ge l [45, 45]; omega
      have hs2 : l ≠ [] → List.isSuffixOf [45] l = false := by
        intro hne
        rw [Bool.eq_false_iff] at hs ⊢
        intro hh
        apply hs
        rw [List.isSuffixOf_iff_suffix] at hh ⊢
        exact List.IsSuffix.trans hh (List.suffix_cons b l)
      have hs3 : List.isSuffixOf [45] l = false := by
        cases l with
        | nil => rfl
        | cons c l => exact hs2 (by simp)
      rw [List.cons_append, index, idx_hh l r hl hs3]
      have hnp : List.isPrefixOf [45, 45] (b :: (l ++ 45 :: 45 :: r)) = false := by
        cases l with
        | nil =>
          have hb : (45 == b) = false := by
            rw [beq_eq_false_iff_ne]
            rintro rfl
            exact absurd hs (by decide)
          simp only [List.isPrefixOf, hb, Bool.false_and]
        | cons c l =>
          rw [Bool.not_eq_true] at hp
          simpa [List.isPrefixOf] using hp
      rw [if_neg (by rw [hnp]; decide), if_neg (by rw [beq_iff_eq]; omega), List.length_cons]
      omega
theorem idx_cut : ∀ (l : List UInt8) (k : Nat), index l [45, 45] = (k : Int) → index (l.take k) [45, 45] = -1 ∧ List.isSuffixOf [45] (l.take k) = false ∧ k ≤ l.length ∧ List.isPrefixOf [45, 45] (l.drop k) = true
  | [], k, h => by
    rw [index] at h
    simp at h
  | b :: l, k, h => by
    rw [index] at h
    split at h
    · rename_i hp
      have : k = 0 := by omega
      subst this
      exact ⟨rfl, rfl, by omega, hp⟩
    · rename_i hp
      split at h
      · omega
      · obtain ⟨j, hj⟩ : ∃ j : Nat, index l [45, 45] = (j : Int) := ⟨(index l [45, 45]).toNat, by
          have := index_ge l [45, 45]
          rename_i hne
          rw [beq_iff_eq] at hne
          omega⟩
        have : k = j + 1 := by omega
        subst this
        obtain ⟨i1, i2, i3, i4⟩ := idx_cut l j hj
        rw [Bool.not_eq_true] at hp
        refine ⟨?_, ?_, by rw [List.length_cons]; omega, i4⟩
        · rw [List.take_succ_cons, index, i1]
          rw [if_neg ?_]
          · rfl
          · rw [Bool.not_eq_true]
            cases l with
            | nil => rw [List.take_nil]; simp [List.isPrefixOf]
            | cons c l =>
              cases j with
              | zero => simp [List.isPrefixOf]
              | succ j => simpa [List.isPrefixOf] using hp
        · rw [List.take_succ_cons]
          cases e : l.take j with
          | nil =>
            have hj0 : l.drop j = l := by
              cases j with
              | zero => rfl
              | succ j =>
                cases l with
                | nil => rfl
                | cons c l => simp at e
            rw [hj0] at i4
            cases l with
            | nil => simp at i4
            | cons c l =>
              rw [Bool.eq_false_iff]
              intro hh
              rw [List.isSuffixOf_iff_suffix] at hh
              have hb : b = 45 := by
                have := hh.subset (List.mem_singleton_self 45)
                simpa using (List.mem_singleton.1 this).symm
              subst hb
              simp [List.isPrefixOf] at hp i4
              exact hp i4.1
          | cons c m =>
            rw [e] at i2
            rw [Bool.eq_false_iff] at i2 ⊢
            intro hh
            apply i2
            rw [List.isSuffixOf_iff_suffix] at hh ⊢
            obtain ⟨p, hp⟩ := hh
            cases p with
            | nil => simp at hp
            | cons q p => exact ⟨p, by rw [List.cons_append] at hp; exact (List.cons.inj hp).2⟩
theorem p_comment {s vl : ByteArray} {a : Nat} {y : List UInt8} (h : Dr s a = 60 :: 33 :: 45 :: 45 :: (vl.data.toList ++ 45 :: 45 :: 62 :: y)) (hv : comB vl = true) :
    pieceZ s (some 83) a = .told (some 83) (a + 4 + vl.size + 3) ⟨6, E0, vl, a⟩ := by
  obtain ⟨h1, h2, h3⟩ := dr_at 60 h rfl
  obtain ⟨g1, g2, g3⟩ := dr_at 33 h3 rfl
  obtain ⟨i1, i2, i3⟩ := dr_at 45 g3 rfl
  obtain ⟨j1, j2, j3⟩ := dr_at 45 i3 rfl
  unfold comB at hv
  simp only [Bool.and_eq_true, Bool.not_eq_true'] at hv
  have hi : index vl.data.toList [45, 45] = -1 := by
    have := hv.1
    unfold Lib.contains at this
    have h4 := of_decide_eq_false this
    have := index_ge vl.data.toList [45, 45]
    omega
  have hx := idx_hh vl.data.toList (62 :: y) hi hv.2
  have hcom : comL s (a + 2 + 1 + 1) = (vl.data.toList, 62 :: y, true) := by
    unfold comL Lib.cut
    rw [show s.data.toList.drop (a + 2 + 1 + 1) = vl.data.toList ++ 45 :: 45 :: 62 :: y from j3, show bHH.data.toList = [45, 45] from rfl, hx, if_pos (by omega)]
    rw [Int.toNat_natCast, List.take_left]
    congr 2
    rw [← List.drop_drop, List.drop_left]; rfl
  have k1 : Dr s (a + 1 + 1 + 1 + 1 + vl.size) = 45 :: 45 :: 62 :: y := by
    have := dr_app j3
    rwa [tl_len] at this
  have k2 := (dr_cons (dr_cons k1).2.2).2.2
  obtain ⟨l1, l2, _⟩ := dr_at 62 k2 rfl
  have hz : contentZ s a = .go (some 112) a none := by
    unfold contentZ
    rw [if_neg (by omega), if_pos h2, if_neg (by rw [g2]; simp), if_pos ⟨g1, g2⟩]
  have hz2 : commentZ s a = .go (some 83) (a + 4 + vl.size + 3) (some ⟨6, E0, vl, a⟩) := by
    unfold commentZ
    rw [show (45 : Nat) = (45 : UInt8).toNat from rfl, expZ_at g3]
    dsimp only
    rw [show expZ s (a + 2 + 1) (UInt8.toNat 45) = none from expZ_at i3]
    dsimp only
    rw [hcom]
    simp only [if_true]
    rw [tl_len]
    rw [if_neg (by omega), show a + 2 + 1 + 1 + vl.size + 2 = a + 1 + 1 + 1 + 1 + vl.size + 1 + 1 by omega, if_pos l2]
    have e : bs vl.data.toList = vl := by apply ba_ext; unfold bs; rfl
    rw [e]
  show runZ s 2 _ a = _
  simp only [runZ, stepZ_content, hz, stepZ_comment, hz2]
theorem p_stop {s : ByteArray} {a : Nat} (h : Dr s a = []) : pieceZ s (some 83) a = .end_ a := by
  have hz : contentZ s a = .go none a none := by
    unfold contentZ
    rw [if_pos (dr_nil h)]
  show runZ s 2 _ a = _
  simp only [runZ, stepZ_content, hz]
end Go.Proofs.YtchfphakhmifmaaGreatDoor
namespace Go.Proofs.YtchfphakhmifmaaGreatDoor
open Go.Lib Go

/-- What a piece is written as; pieces that Print takes, behind one of a Kind. -/
def wL (t : IT) : List UInt8 := (wrB t.k.toNat t.nm t.vl).data.toList
def Chn : Int → List IT → Prop
  | last, [] => inT last = false
  | last, t :: ts => putE last t = 0 ∧ Chn t.k ts
def flatL (ts : List IT) : List Nat := ts.flatMap fun t => lOf (wrB t.k.toNat t.nm t.vl)
theorem pr_ok : ∀ (ts : List IT) (n : Nat) (last : Int) (L T : List Nat) (p : Nat), prZ ts n last L = (T, 0, p) → Chn last ts ∧ T = L ++ flatL ts ∧ T.length ≤ 1048576
  | [], n, last, L, T, p, h => by
    rw [prZ] at h
    split at h
    · cases h
    · split at h
      · cases h
      · rename_i h1 h2
        injection h with h3 h4
        refine ⟨by show inT last = false; simpa using h1, ?_, by rw [← h3]; omega⟩
        rw [← h3]; simp [flatL]
  | t :: ts, n, last, L, T, p, h => by
    rw [prZ] at h
    split at h
    · rename_i h0
      obtain ⟨h1, h2, h3⟩ := pr_ok ts (n + 1) t.k (putL L t) T p h
      refine ⟨⟨h0, h1⟩, ?_, h3⟩
      have hl := congrArg List.length h2
      rw [List.length_append] at hl
      have hle : L.length ≤ 1048576 := by
        by_cases hh : L.length ≤ 1048576
        · exact hh
        · unfold putL at hl
          rw [if_neg hh] at hl
          omega
      rw [h2]
      unfold putL flatL
      rw [if_pos hle, List.flatMap_cons, List.append_assoc]
    · rename_i h0
      injection h with h1 h2
      injection h2 with h2 h3
      exact absurd h2 h0
theorem pr_of : ∀ (ts : List IT) (n : Nat) (last : Int) (L : List Nat), Chn last ts → (L.length + (flatL ts).length ≤ 1048576 → prZ ts n last L = (L ++ flatL ts, 0, 0)) ∧ (1048576 < L.length + (flatL ts).length → prZ ts n last L = ([], 45, n + ts.length))
  | [], n, last, L, h => by
    have h' : inT last = false := h
    rw [prZ, if_neg (by rw [h']; decide)]
    have e : flatL [] = [] := rfl
    rw [e]
    simp only [List.length_nil, Nat.add_zero, List.append_nil]
    exact ⟨fun hh => by rw [if_neg (by omega)], fun hh => by rw [if_pos hh]⟩
  | t :: ts, n, last, L, h => by
    rw [prZ, if_pos h.1]
    have ih := pr_of ts (n + 1) t.k (putL L t) h.2
    have e : flatL (t :: ts) = lOf (wrB t.k.toNat t.nm t.vl) ++ flatL ts := by unfold flatL; rw [List.flatMap_cons]
    rw [e, List.length_append, List.length_cons]
    by_cases hle : L.length ≤ 1048576
    · have e2 : putL L t = L ++ lOf (wrB t.k.toNat t.nm t.vl) := by unfold putL; rw [if_pos hle]
      rw [e2, List.length_append] at ih
      rw [e2]
      exact ⟨fun hh => by rw [ih.1 (by omega), List.append_assoc], fun hh => by rw [ih.2 (by omega), show n + 1 + ts.length = n + (ts.length + 1) by omega]⟩
    · have e2 : putL L t = L := by unfold putL; rw [if_neg hle]
      rw [e2] at ih ⊢
      exact ⟨fun hh => by omega, fun hh => by rw [ih.2 (by omega), show n + 1 + ts.length = n + (ts.length + 1) by omega]⟩
theorem size_zero {v : ByteArray} (h : v.size = 0) : v = E0 := by
  apply ba_ext
  have : v.data.toList.length = 0 := by rw [tl_len]; exact h
  rw [List.length_eq_zero_iff.1 this]
theorem size_E0 : E0.size = 0 := rfl
/-- What put asks of a piece. -/
structure Fits (last : Int) (k : Nat) (nm vl : ByteArray) : Prop where
  lt : k < 8
  n0 : shN k = false → nm = E0
  v0 : shV k = false → vl = E0
  tag : shT k = inT last
  d : k = 7 → last = -1
  t5 : k = 5 → 0 < vl.size ∧ last ≠ 5
  nm : shN k = true → xmlNameB nm = true
  vx : VX (lOf vl)
  c6 : k = 6 → comB vl = true
  c7 : k = 7 → dclB vl = true
theorem fits_of {last : Int} {t : IT} (h : putE last t = 0) : ∃ k : Nat, t.k = (k : Int) ∧ Fits last k t.nm t.vl := by
  unfold putE at h
  split at h
  · exact absurd h (by decide)
  · rename_i hk
    obtain ⟨k, hk2⟩ : ∃ k : Nat, t.k = (k : Int) := ⟨t.k.toNat, by omega⟩
    refine ⟨k, hk2, ?_⟩
    rw [hk2, Int.toNat_natCast] at h
    rw [hk2] at hk
    split at h
    · rename_i hc
      unfold canF at hc
      split at hc
      · exact absurd hc (by decide)
      · rename_i hg
        simp only [Bool.or_eq_true, Bool.and_eq_true, Bool.not_eq_true', decide_eq_false_iff_not, bne_iff_ne, not_or, not_and, Bool.not_eq_false, Decidable.not_not] at hg
        obtain ⟨g1, g2, g3⟩ := hg
        unfold chkE at h
        split at h
        · exact absurd h (by decide)
        · rename_i hn
          split at h
          · rename_i hv
            split at h
            · exact absurd h (by decide)
            · rename_i h6
              split at h
              · exact absurd h (by decide)
              · rename_i h7
                refine ⟨by omega, fun hs => ?_, fun hs => ?_, g3, fun h7' => ?_, fun h5' => ?_, fun hs => ?_, (chars_iff _).1 hv, fun h6' => ?_, fun h7' => ?_⟩
                · by_cases hz : t.nm.size = 0
                  · exact size_zero hz
                  · have := g1 hz; rw [hs] at this; exact absurd this (by decide)
                · by_cases hz : t.vl.size = 0
                  · exact size_zero hz
                  · have := g2 hz; rw [hs] at this; exact absurd this (by decide)
                · subst h7'
                  rw [if_pos rfl] at hc
                  exact of_decide_eq_true hc
                · subst h5'
                  rw [if_neg (by decide), if_pos rfl] at hc
                  simp only [Bool.and_eq_true, Bool.not_eq_true', decide_eq_false_iff_not] at hc
                  exact ⟨by omega, hc.2⟩
                · by_cases hx : xmlNameB t.nm = true
                  · exact hx
                  · exact absurd ⟨hs, by simpa using hx⟩ hn
                · by_cases hx : comB t.vl = true
                  · exact hx
                  · exact absurd ⟨h6', by simpa using hx⟩ h6
                · by_cases hx : dclB t.vl = true
                  · exact hx
                  · exact absurd ⟨h7', by simpa using hx⟩ h7
          · rename_i hv
            exact absurd h hv
    · exact absurd h (by decide)
theorem fits_put {last : Int} {t : IT} {k : Nat} (hk : t.k = (k : Int)) (f : Fits last k t.nm t.vl) : putE last t = 0 := by
  have h8 := f.lt
  unfold putE
  rw [if_neg (by omega), hk, Int.toNat_natCast]
  have hc : canF last k t.nm t.vl = true := by
    unfold canF
    rw [if_neg]
    · by_cases h7 : k = 7
      · rw [if_pos h7, decide_eq_true (f.d h7)]
      · rw [if_neg h7]
        by_cases h5 : k = 5
        · have := f.t5 h5
          rw [if_pos h5, decide_eq_false (by omega), decide_eq_false this.2]
          rfl
        · rw [if_neg h5]
    · simp only [Bool.or_eq_true, Bool.and_eq_true, Bool.not_eq_true', decide_eq_false_iff_not, bne_iff_ne, not_or, not_and, Bool.not_eq_false, Decidable.not_not]
      refine ⟨fun hz => ?_, fun hz => ?_, f.tag⟩
      · cases hs : shN k
        · exact absurd (by rw [f.n0 hs]; rfl) hz
        · rfl
      · cases hs : shV k
        · exact absurd (by rw [f.v0 hs]; rfl) hz
        · rfl
  rw [if_pos hc]
  unfold chkE
  rw [if_neg (fun hh => by rw [f.nm hh.1] at hh; exact absurd hh.2 (by decide)), if_pos ((chars_iff _).2 f.vx), if_neg (fun hh => by rw [f.c6 hh.1] at hh; exact absurd hh.2 (by decide)), if_neg (fun hh => by rw [f.c7 hh.1] at hh; exact absurd hh.2 (by decide))]
theorem wl0 (nm vl : ByteArray) : (wrB 0 nm vl).data.toList = 60 :: nm.data.toList := by simp [wrB, ByteArray.data_append]
theorem wl1 (nm vl : ByteArray) : (wrB 1 nm vl).data.toList = 32 :: (nm.data.toList ++ 61 :: 34 :: ((escB true vl).data.toList ++ [34])) := by simp [wrB, ByteArray.data_append]
theorem wl2 (nm vl : ByteArray) : (wrB 2 nm vl).data.toList = [62] := by simp [wrB]
theorem wl3 (nm vl : ByteArray) : (wrB 3 nm vl).data.toList = [47, 62] := by simp [wrB]
theorem wl4 (nm vl : ByteArray) : (wrB 4 nm vl).data.toList = 60 :: 47 :: (nm.data.toList ++ [62]) := by simp [wrB, ByteArray.data_append]
theorem wl5 (nm vl : ByteArray) : (wrB 5 nm vl).data.toList = (escB false vl).data.toList := by simp [wrB]
theorem wl6 (nm vl : ByteArray) : (wrB 6 nm vl).data.toList = 60 :: 33 :: 45 :: 45 :: (vl.data.toList ++ [45, 45, 62]) := by simp [wrB, ByteArray.data_append]
theorem wl7 (nm vl : ByteArray) : (wrB 7 nm vl).data.toList = 60 :: 63 :: 120 :: 109 :: 108 :: (vl.data.toList ++ [63, 62]) := by simp [wrB, ByteArray.data_append]
theorem esc_ne {attr : Bool} {vl : ByteArray} (h : 0 < vl.size) : (escB attr vl).data.toList ≠ [] := by
  intro e
  have h1 : (escB attr vl).size = 0 := by rw [← tl_len, e]; rfl
  unfold escB at h1
  rw [sOf_size] at h1
  have h2 : lOf vl ≠ [] := fun hh => by rw [← lOf_length, hh] at h; exact absurd h (by decide)
  obtain ⟨c, r, e2⟩ := List.exists_cons_of_ne_nil h2
  rw [e2] at h1
  unfold escL at h1
  rw [List.flatMap_cons, List.length_append] at h1
  have := (escC_len attr c).2
  omega
/-- The reader's state behind a piece of a Kind. -/
def stN (last : Int) : Nat := if inT last = true then 135 else 83
theorem ok_st {s : ByteArray} {a : Nat} (last : Int) (hs : s.size ≤ 1048576) (ha : a ≤ s.size) : okO s a (some (stN last)) := by
  unfold stN
  show stOk s _ a
  unfold stOk
  right
  refine ⟨hs, ?_⟩
  split
  · simp [ha]
  · simp [ha]
theorem piece_back {s : ByteArray} {a : Nat} {last : Int} {k : Nat} {nm vl : ByteArray} {y : List UInt8} (f : Fits last k nm vl) (h7 : k ≠ 7) (h : Dr s a = (wrB k nm vl).data.toList ++ y)
    (hy0 : k = 0 → ∃ c y', y = c :: y' ∧ NEb.data.toList.contains c = true) (hy5 : k = 5 → y = [] ∨ ∃ y', y = 60 :: y') :
    ∃ p, pieceZ s (some (stN last)) a = .told (some (stN (k : Int))) (a + (wrB k nm vl).data.toList.length) ⟨k, nm, vl, p⟩ ∧ a ≤ p ∧ p < a + (wrB k nm vl).data.toList.length := by
  have ht := f.tag
  have hk := f.lt
  have cases : k = 0 ∨ k = 1 ∨ k = 2 ∨ k = 3 ∨ k = 4 ∨ k = 5 ∨ k = 6 := by omega
  unfold stN
  rcases cases with rfl | rfl | rfl | rfl | rfl | rfl | rfl
  · rw [← ht, if_neg (show ¬ shT 0 = true by decide), if_pos (show inT ((0 : Nat) : Int) = true by decide)]
    obtain ⟨c, y', rfl, hc⟩ := hy0 rfl
    rw [wl0] at h ⊢
    rw [f.v0 (by decide), p_open h (f.nm (by decide)) hc]
    refine ⟨a, ?_, Nat.le_refl _, by simp⟩
    rw [List.length_cons, tl_len, show a + 1 + nm.size = a + (nm.size + 1) by omega]
  · rw [← ht, if_pos (show shT 1 = true by decide), if_pos (show inT ((1 : Nat) : Int) = true by decide)]
    rw [wl1] at h ⊢
    have h' : Dr s a = 32 :: (nm.data.toList ++ 61 :: 34 :: ((escB true vl).data.toList ++ 34 :: y)) := by rw [h]; simp
    rw [p_attr h' (f.nm (by decide))]
    refine ⟨a + 1, ?_, by omega, by simp; omega⟩
    congr 1
    simp only [List.length_cons, List.length_append, tl_len, List.length_nil]
    omega
  · rw [← ht, if_pos (show shT 2 = true by decide), if_neg (show ¬ inT ((2 : Nat) : Int) = true by decide)]
    rw [wl2] at h ⊢
    rw [f.n0 (by decide), f.v0 (by decide), p_end h]
    exact ⟨a, rfl, Nat.le_refl _, by simp⟩
  · rw [← ht, if_pos (show shT 3 = true by decide), if_neg (show ¬ inT ((3 : Nat) : Int) = true by decide)]
    rw [wl3] at h ⊢
    rw [f.n0 (by decide), f.v0 (by decide), p_empty h]
    exact ⟨a, rfl, Nat.le_refl _, by simp⟩
  · rw [← ht, if_neg (show ¬ shT 4 = true by decide), if_neg (show ¬ inT ((4 : Nat) : Int) = true by decide)]
    rw [wl4] at h ⊢
    have h' : Dr s a = 60 :: 47 :: (nm.data.toList ++ 62 :: y) := by rw [h]; simp
    rw [f.v0 (by decide), p_close h' (f.nm (by decide))]
    refine ⟨a, ?_, Nat.le_refl _, by simp⟩
    congr 1
    simp only [List.length_cons, List.length_append, tl_len, List.length_nil]
    omega
  · rw [← ht, if_neg (show ¬ shT 5 = true by decide), if_neg (show ¬ inT ((5 : Nat) : Int) = true by decide)]
    rw [wl5] at h ⊢
    have hne := esc_ne (attr := false) (f.t5 rfl).1
    rw [f.n0 (by decide), p_text h hne (hy5 rfl)]
    refine ⟨a, by rw [tl_len], Nat.le_refl _, ?_⟩
    have := List.length_pos_iff.2 hne
    omega
  · rw [← ht, if_neg (show ¬ shT 6 = true by decide), if_neg (show ¬ inT ((6 : Nat) : Int) = true by decide)]
    rw [wl6] at h ⊢
    have h' : Dr s a = 60 :: 33 :: 45 :: 45 :: (vl.data.toList ++ 45 :: 45 :: 62 :: y) := by rw [h]; simp
    rw [f.n0 (by decide), p_comment h' (f.c6 rfl)]
    refine ⟨a, ?_, Nat.le_refl _, by simp⟩
    congr 1
    simp only [List.length_cons, List.length_append, tl_len, List.length_nil]
    omega
/-- The same pieces, places aside; places rise. -/
def Sm : List Tok → List IT → Prop
  | [], [] => True
  | u :: us, t :: ts => (u.k : Int) = t.k ∧ u.nm = t.nm ∧ u.vl = t.vl ∧ Sm us ts
  | _, _ => False
def Rs (n : Nat) : Nat → List Tok → Prop
  | _, [] => True
  | lo, u :: us => lo ≤ u.p ∧ u.p < n ∧ Rs n (u.p + 1) us
theorem Rs.le {n : Nat} : ∀ {us : List Tok} {lo lo' : Nat}, Rs n lo us → lo' ≤ lo → Rs n lo' us
  | [], _, _, _, _ => trivial
  | _ :: _, _, _, h, hl => ⟨Nat.le_trans hl h.1, h.2⟩
def fl (ts : List IT) : List UInt8 := ts.flatMap wL
theorem fl_cons (t : IT) (ts : List IT) : fl (t :: ts) = wL t ++ fl ts := by unfold fl; rw [List.flatMap_cons]
theorem behind_open {ts : List IT} (h : Chn 0 ts) : ∃ c y', fl ts = c :: y' ∧ NEb.data.toList.contains c = true := by
  cases ts with
  | nil => exact absurd (show inT 0 = false from h) (by decide)
  | cons t ts =>
    obtain ⟨k, hk, f⟩ := fits_of h.1
    have ht : shT k = true := f.tag
    have hk3 : k = 1 ∨ k = 2 ∨ k = 3 := of_decide_eq_true ht
    rw [fl_cons]
    unfold wL
    rw [hk, Int.toNat_natCast]
    rcases hk3 with rfl | rfl | rfl
    · rw [wl1]; exact ⟨_, _, List.cons_append, by decide⟩
    · rw [wl2]; exact ⟨_, _, List.cons_append, by decide⟩
    · rw [wl3]; exact ⟨_, _, List.cons_append, by decide⟩
theorem behind_text {ts : List IT} (h : Chn 5 ts) : fl ts = [] ∨ ∃ y', fl ts = 60 :: y' := by
  cases ts with
  | nil => exact Or.inl rfl
  | cons t ts =>
    right
    obtain ⟨k, hk, f⟩ := fits_of h.1
    have ht : shT k = false := f.tag
    have hk3 : ¬ (k = 1 ∨ k = 2 ∨ k = 3) := of_decide_eq_false ht
    have h5 : k ≠ 5 := fun hh => (f.t5 hh).2 rfl
    have h7 : k ≠ 7 := fun hh => absurd (f.d hh) (by decide)
    have h8 := f.lt
    have cs : k = 0 ∨ k = 4 ∨ k = 6 := by omega
    rw [fl_cons]
    unfold wL
    rw [hk, Int.toNat_natCast]
    rcases cs with rfl | rfl | rfl
    · rw [wl0]; exact ⟨_, List.cons_append⟩
    · rw [wl4]; exact ⟨_, List.cons_append⟩
    · rw [wl6]; exact ⟨_, List.cons_append⟩
theorem back_main (s : ByteArray) (hs : s.size ≤ 1048576) : ∀ (ts : List IT) (last : Int) (a : Nat), Chn last ts → last ≠ -1 → a ≤ s.size → Dr s a = fl ts → ∃ us, toksZ s (some (stN last)) a = (us, none) ∧ Sm us ts ∧ Rs s.size a us
  | [], last, a, hc, _, _, h => by
    have hi : inT last = false := hc
    refine ⟨[], toksZ_end (b := a) ?_, trivial, trivial⟩
    unfold stN
    rw [if_neg (by rw [hi]; decide)]
    exact p_stop h
  | t :: ts, last, a, hc, hl, ha, h => by
    obtain ⟨k, hk, f⟩ := fits_of hc.1
    have hc2 := hc.2
    rw [hk] at hc2
    rw [fl_cons] at h
    unfold wL at h
    rw [hk, Int.toNat_natCast] at h
    obtain ⟨p, hp, hp1, hp2⟩ := piece_back f (fun hh => hl (f.d hh)) h (fun hh => by subst hh; exact behind_open hc2) (fun hh => by subst hh; exact behind_text hc2)
    have hb := dr_le ha h
    obtain ⟨us, e, sm, rs⟩ := back_main s hs ts (k : Int) _ hc2 (by omega) hb (dr_app h)
    refine ⟨⟨k, t.nm, t.vl, p⟩ :: us, by rw [toksZ_told (ok_st last hs ha) hp, e], ⟨hk.symm, rfl, rfl, sm⟩, hp1, by show p < s.size; omega, Rs.le rs (by show p + 1 ≤ _; omega)⟩
end Go.Proofs.YtchfphakhmifmaaGreatDoor
namespace Go.Proofs.YtchfphakhmifmaaGreatDoor
open Go.Lib Go

theorem pof_esc (attr : Bool) (vl : ByteArray) : (escB attr vl).data.toList.map UInt8.toNat = escL attr (lOf vl) := by
  show lOf (escB attr vl) = _
  unfold escB
  exact lOf_sOf _ fun b hb => (esc_clean attr (lOf vl) (lOf_lt vl) b hb).1
theorem lw0 (nm vl : ByteArray) : lOf (wrB 0 nm vl) = 60 :: lOf nm := by unfold lOf; rw [wl0]; rfl
theorem lw1 (nm vl : ByteArray) : lOf (wrB 1 nm vl) = 32 :: (lOf nm ++ 61 :: 34 :: (escL true (lOf vl) ++ [34])) := by
  have e := pof_esc true vl
  unfold lOf at e ⊢
  rw [wl1, ← e]
  simp
theorem lw2 (nm vl : ByteArray) : lOf (wrB 2 nm vl) = [62] := by unfold lOf; rw [wl2]; rfl
theorem lw3 (nm vl : ByteArray) : lOf (wrB 3 nm vl) = [47, 62] := by unfold lOf; rw [wl3]; rfl
theorem lw4 (nm vl : ByteArray) : lOf (wrB 4 nm vl) = 60 :: 47 :: (lOf nm ++ [62]) := by unfold lOf; rw [wl4]; simp
theorem lw5 (nm vl : ByteArray) : lOf (wrB 5 nm vl) = escL false (lOf vl) := by
  have e := pof_esc false vl
  unfold lOf at e ⊢
  rw [wl5]
  exact e
theorem pesc_nil : escL false [] = [] := rfl
/-- A tree's elements behind one of a Depth. -/
structure GE (e : El) : Prop where
  nm : xmlNameB e.nm = true
  a24 : e.ats.length ≤ 24
  ats : ∀ a ∈ e.ats, xmlNameB a.nm = true ∧ VX (lOf a.vl)
  tx : VX (lOf e.tx)
def Tr : Int → List El → Prop
  | _, [] => True
  | a, e :: r => 1 ≤ e.d ∧ e.d ≤ a + 1 ∧ e.d ≤ 16 ∧ GE e ∧ Tr e.d r
theorem chr_vx {s : ByteArray} (h : chrB s = true) : VX (lOf s) := (chars_iff s).1 (of_decide_eq_true h)
theorem atE_ok : ∀ (r l : List Att), atE l r = 0 → ∀ a ∈ r, xmlNameB a.nm = true ∧ VX (lOf a.vl)
  | [], _, _, a, h => by cases h
  | b :: r, l, h, a, ha => by
    unfold atE at h
    split at h
    · rename_i hb
      split at h
      · cases h
      · rcases List.mem_cons.1 ha with rfl | ha
        · exact ⟨hb.1, chr_vx hb.2⟩
        · exact atE_ok r _ h a ha
    · cases h
theorem elE_ok {n : Nat} {ahead : Int} {e : El} (h : elE n ahead e = 0) : 1 ≤ e.d ∧ e.d ≤ ahead + 1 ∧ e.d ≤ 16 ∧ GE e ∧ (0 < n → 2 ≤ e.d) ∧ n < 20000 := by
  unfold elE at h
  split at h
  · cases h
  · split at h
    · cases h
    · split at h
      · cases h
      · split at h
        · cases h
        · split at h
          · cases h
          · split at h
            · cases h
            · split at h
              · rename_i hx; exact absurd h hx
              · split at h
                · rename_i h1 h2 h3 h4 h5 h6 h7 h8
                  exact ⟨by omega, by omega, by omega, ⟨by simpa using h5, by omega, atE_ok _ _ (by simpa using h7), chr_vx h8⟩, by omega, by omega⟩
                · cases h
theorem chkF_ok : ∀ (r : List El) (n : Nat) (ahead : Int), (chkF r n ahead).1 = 0 → Tr ahead r ∧ (0 < n → ∀ e ∈ r, 2 ≤ e.d) ∧ (r ≠ [] → n + r.length ≤ 20000)
  | [], _, _, _ => by
    refine ⟨trivial, fun _ e he => ?_, fun h => absurd rfl h⟩
    cases he
  | e :: r, n, ahead, h => by
    unfold chkF at h
    split at h
    · rename_i he
      obtain ⟨a1, a2, a3, a4, a5, a6⟩ := elE_ok he
      obtain ⟨b1, b2, b3⟩ := chkF_ok r (n + 1) e.d h
      refine ⟨⟨a1, a2, a3, a4, b1⟩, fun hn x hx => ?_, fun _ => ?_⟩
      · rcases List.mem_cons.1 hx with rfl | hx
        · exact a5 hn
        · exact b2 (by omega) x hx
      · rw [List.length_cons]
        by_cases hr : r = []
        · subst hr; simp; omega
        · have := b3 hr; omega
    · rename_i he; exact absurd h he
theorem chkF_zero : ∀ (r : List El) (n : Nat) (ahead : Int), (chkF r n ahead).1 = 0 → chkF r n ahead = (0, 0)
  | [], _, _, _ => rfl
  | e :: r, n, ahead, h => by
    unfold chkF at h ⊢
    split at h
    · rename_i he; rw [if_pos he]; exact chkF_zero r _ _ h
    · rename_i he; exact absurd h he
/-- The pieces of a tree: what is still open, the innermost first. -/
def pcC (nm : ByteArray) : IT := ⟨4, nm, E0, 0⟩
def pcO (nm : ByteArray) : IT := ⟨0, nm, E0, 0⟩
def pcA (a : Att) : IT := ⟨1, a.nm, a.vl, 0⟩
def pcE : IT := ⟨2, E0, E0, 0⟩
def pcM : IT := ⟨3, E0, E0, 0⟩
def pcT (v : ByteArray) : IT := ⟨5, E0, v, 0⟩
def shutL (st : List ByteArray) (d : Nat) : List IT := (st.take (st.length - d)).map pcC
def cutS (st : List ByteArray) (d : Nat) : List ByteArray := st.drop (st.length - d)
def holdsB (e : El) : List El → Bool
  | [] => false
  | x :: _ => decide (e.d < x.d)
def leaf (e : El) (h : Bool) : Bool := !h && decide (e.tx.size = 0)
def putP (e : El) (h : Bool) : List IT :=
  pcO e.nm :: (e.ats.map pcA ++ (if leaf e h = true then [pcM] else pcE :: (if e.tx.size = 0 then [] else [pcT e.tx])))
def putS (e : El) (h : Bool) (st : List ByteArray) : List ByteArray := if leaf e h = true then st else e.nm :: st
def pcsF : List El → List ByteArray → List IT
  | [], st => shutL st 0
  | e :: r, st => shutL st (e.d - 1).toNat ++ (putP e (holdsB e r) ++ pcsF r (putS e (holdsB e r) (cutS st (e.d - 1).toNat)))
/-- The document's way. -/
def kidsS (d : Int) : List El → List (List El)
  | [] => []
  | e :: r => if d < e.d then (if e.d = d + 1 then (e :: r) :: kidsS d r else kidsS d r) else []
def skipS (d : Int) : List El → List El
  | [] => []
  | e :: r => if d < e.d then skipS d r else e :: r
def attL (a : Att) : List Nat := 32 :: (lOf a.nm ++ 61 :: 34 :: (escL true (lOf a.vl) ++ [34]))
def prtS : Nat → List El → List Nat
  | 0, _ => []
  | _ + 1, [] => []
  | f + 1, x :: r => 60 :: (lOf x.nm ++ (x.ats.flatMap attL ++ (if kidsS x.d r = [] ∧ x.tx.size = 0 then [47, 62] else 62 :: (escL false (lOf x.tx) ++ ((kidsS x.d r).flatMap (prtS f) ++ 60 :: 47 :: (lOf x.nm ++ [62]))))))
theorem shutL_self (st : List ByteArray) : shutL st st.length = [] := by unfold shutL; simp
theorem cutS_self (st : List ByteArray) : cutS st st.length = st := by unfold cutS; simp
theorem shutL_cons (nm : ByteArray) (st : List ByteArray) (d : Nat) (h : d ≤ st.length) : shutL (nm :: st) d = pcC nm :: shutL st d := by
  unfold shutL
  rw [List.length_cons, show st.length + 1 - d = (st.length - d) + 1 by omega, List.take_succ_cons, List.map_cons]
theorem cutS_cons (nm : ByteArray) (st : List ByteArray) (d : Nat) (h : d ≤ st.length) : cutS (nm :: st) d = cutS st d := by
  unfold cutS
  rw [List.length_cons, show st.length + 1 - d = (st.length - d) + 1 by omega, List.drop_succ_cons]
/-- An element is closed where the next one isn't deeper. -/
theorem pcsF_close (nm : ByteArray) (st : List ByteArray) : ∀ r : List El, (∀ e ∈ r.head?, (e.d - 1).toNat ≤ st.length) → pcsF r (nm :: st) = pcC nm :: pcsF r st
  | [], _ => by unfold pcsF; exact shutL_cons nm st 0 (Nat.zero_le _)
  | e :: r, h => by
    have h1 := h e (by simp)
    unfold pcsF
    rw [shutL_cons nm st _ h1, cutS_cons nm st _ h1]
    rfl
theorem flatL_app (a b : List IT) : flatL (a ++ b) = flatL a ++ flatL b := by unfold flatL; exact List.flatMap_append
theorem flatL_cons (a : IT) (b : List IT) : flatL (a :: b) = lOf (wrB a.k.toNat a.nm a.vl) ++ flatL b := by unfold flatL; rw [List.flatMap_cons]
theorem flatL_ats : ∀ l : List Att, flatL (l.map pcA) = l.flatMap attL
  | [] => rfl
  | a :: l => by rw [List.map_cons, flatL_cons, flatL_ats l, List.flatMap_cons]; exact congrArg (· ++ _) (lw1 a.nm a.vl)
theorem kids_skip (d : Int) : ∀ r : List El, kidsS d (skipS (d + 1) r) = kidsS d r
  | [] => rfl
  | e :: r => by
    unfold skipS
    split
    · rename_i h
      rw [kids_skip d r]
      conv => rhs; unfold kidsS
      rw [if_pos (by omega), if_neg (by omega)]
    · rfl
theorem skip_skip (d : Int) : ∀ r : List El, skipS d (skipS (d + 1) r) = skipS d r
  | [] => rfl
  | e :: r => by
    conv => lhs; rw [skipS]
    split
    · rename_i h
      rw [skip_skip d r]
      conv => rhs; unfold skipS
      rw [if_pos (by omega)]
    · rfl
theorem skip_len (d : Int) : ∀ r : List El, (skipS d r).length ≤ r.length
  | [] => Nat.le_refl _
  | e :: r => by
    unfold skipS
    split
    · have := skip_len d r; rw [List.length_cons]; omega
    · exact Nat.le_refl _
theorem tr_weak {a b : Int} (h : a ≤ b) : ∀ r : List El, Tr a r → Tr b r
  | [], _ => trivial
  | _ :: _, ⟨h1, h2, h3, h4, h5⟩ => ⟨h1, by omega, h3, h4, h5⟩
theorem tr_skip (d : Int) : ∀ (r : List El) (a : Int), Tr a r → Tr (d - 1) (skipS d r)
  | [], _, _ => trivial
  | e :: r, a, ⟨h1, h2, h3, h4, h5⟩ => by
    unfold skipS
    split
    · exact tr_skip d r e.d h5
    · exact ⟨h1, by omega, h3, h4, h5⟩
theorem kids_none {e : El} {r : List El} (h : holdsB e r = false) : kidsS e.d r = [] := by
  cases r with
  | nil => rfl
  | cons x r =>
    have : ¬ e.d < x.d := of_decide_eq_false h
    unfold kidsS
    rw [if_neg this]
theorem kids_some {e : El} {r : List El} (h : holdsB e r = true) (ht : Tr e.d r) : kidsS e.d r ≠ [] := by
  cases r with
  | nil => cases h
  | cons x r =>
    have : e.d < x.d := of_decide_eq_true h
    have h2 := ht.2.1
    unfold kidsS
    rw [if_pos this, if_pos (by omega)]
    exact List.cons_ne_nil _ _
theorem skip_head (d : Int) : ∀ (r : List El), ∀ e ∈ (skipS d r).head?, e.d ≤ d
  | [], e, h => by cases h
  | x :: r, e, h => by
    unfold skipS at h
    split at h
    · exact skip_head d r e h
    · rename_i hx
      have : x = e := by simpa using h
      subst this
      omega
theorem pcs_main : ∀ (n : Nat) (r : List El) (d : Nat) (st : List ByteArray) (f : Nat), r.length ≤ n → Tr d r → st.length = d → 16 ≤ f + d →
    flatL (pcsF r st) = (kidsS d r).flatMap (prtS f) ++ flatL (pcsF (skipS d r) st)
  | _, [], d, st, f, _, _, _, _ => rfl
  | 0, _ :: _, _, _, _, h, _, _, _ => absurd h (by simp)
  | n + 1, e :: r, d, st, f, hn, ⟨h1, h2, h3, h4, h5⟩, hst, hf => by
    rw [List.length_cons] at hn
    by_cases hd : (d : Int) < e.d
    · have hed : e.d = d + 1 := by omega
      obtain ⟨f, rfl⟩ : ∃ g, f = g + 1 := ⟨f - 1, by omega⟩
      have hk : kidsS d (e :: r) = (e :: r) :: kidsS d r := by rw [kidsS, if_pos hd, if_pos hed]
      have hs : skipS d (e :: r) = skipS d r := by rw [skipS, if_pos hd]
      rw [hk, hs, List.flatMap_cons]
      have hz : (e.d - 1).toNat = st.length := by omega
      rw [pcsF, hz, shutL_self, cutS_self, List.nil_append, flatL_app]
      unfold putP putS
      rw [flatL_cons, flatL_app, flatL_ats, prtS]
      have e0 : lOf (wrB (pcO e.nm).k.toNat (pcO e.nm).nm (pcO e.nm).vl) = 60 :: lOf e.nm := lw0 _ _
      rw [e0]
      cases hl : leaf e (holdsB e r)
      · -- kids or a text
        simp only [Bool.false_eq_true, if_false]
        have hne : ¬ (kidsS e.d r = [] ∧ e.tx.size = 0) := by
          rintro ⟨a, b⟩
          unfold leaf at hl
          rw [decide_eq_true b, Bool.and_true] at hl
          exact kids_some (by simpa using hl) h5 a
        rw [if_neg hne, flatL_cons]
        have e2 : lOf (wrB pcE.k.toNat pcE.nm pcE.vl) = [62] := lw2 _ _
        have et : flatL (if e.tx.size = 0 then [] else [pcT e.tx]) = escL false (lOf e.tx) := by
          split
          · rename_i hz
            have : lOf e.tx = [] := by
              unfold lOf
              rw [List.map_eq_nil_iff, ← List.length_eq_zero_iff]
              exact hz
            rw [this, pesc_nil]
            rfl
          · rw [flatL_cons]
            have : lOf (wrB (pcT e.tx).k.toNat (pcT e.tx).nm (pcT e.tx).vl) = escL false (lOf e.tx) := lw5 _ _
            rw [this]
            show _ ++ [] = _
            rw [List.append_nil]
        have i1 := pcs_main n r (d + 1) (e.nm :: st) f (by omega) (by rw [hed] at h5; exact h5) (by rw [List.length_cons, hst]) (by omega)
        have i2 := pcs_main n (skipS ((d + 1 : Nat) : Int) r) d st (f + 1) (by have := skip_len ((d + 1 : Nat) : Int) r; omega) (by have := tr_skip ((d + 1 : Nat) : Int) r e.d h5; exact tr_weak (by omega) _ this) hst hf
        have i3 := pcsF_close e.nm st (skipS ((d + 1 : Nat) : Int) r) (fun x hx => by have := skip_head ((d + 1 : Nat) : Int) r x hx; omega)
        rw [i3, flatL_cons] at i1
        have e4 : lOf (wrB (pcC e.nm).k.toNat (pcC e.nm).nm (pcC e.nm).vl) = 60 :: 47 :: (lOf e.nm ++ [62]) := lw4 _ _
        have hcast : ((d + 1 : Nat) : Int) = (d : Int) + 1 := by omega
        rw [hcast, kids_skip, skip_skip] at i2
        rw [hcast, i2, e4] at i1
        rw [i1, e2, et, hed]
        simp only [List.append_assoc, List.cons_append, List.nil_append]
      · rw [if_pos rfl, if_pos rfl]
        have hh : holdsB e r = false ∧ e.tx.size = 0 := by
          unfold leaf at hl
          simpa using hl
        rw [if_pos ⟨kids_none hh.1, hh.2⟩]
        have e3 : lOf (wrB pcM.k.toNat pcM.nm pcM.vl) = [47, 62] := lw3 _ _
        rw [flatL_cons, e3]
        have ht : Tr d r := by
          cases r with
          | nil => trivial
          | cons x r =>
            have : ¬ e.d < x.d := of_decide_eq_false hh.1
            exact ⟨h5.1, by omega, h5.2.2.1, h5.2.2.2.1, h5.2.2.2.2⟩
        rw [pcs_main n r d st (f + 1) (by omega) ht hst hf]
        show _ ++ (_ ++ ([47, 62] ++ [])) ++ _ = _
        simp only [List.append_assoc, List.cons_append, List.nil_append, List.append_nil]
    · have hk : kidsS d (e :: r) = [] := by rw [kidsS, if_neg hd]
      have hs : skipS d (e :: r) = e :: r := by rw [skipS, if_neg hd]
      rw [hk, hs]
      rfl
theorem skip_deep {d : Int} : ∀ (r : List El), (∀ e ∈ r, d < e.d) → skipS d r = []
  | [], _ => rfl
  | e :: r, h => by rw [skipS, if_pos (h e (by simp)), skip_deep r fun x hx => h x (by simp [hx])]
theorem kids_deep {d : Int} : ∀ (r : List El), (∀ e ∈ r, d + 1 < e.d) → kidsS d r = []
  | [], _ => rfl
  | e :: r, h => by
    have := h e (by simp)
    rw [kidsS, if_pos (by omega), if_neg (by omega), kids_deep r fun x hx => h x (by simp [hx])]
/-- What is written is the document's. -/
theorem pcs_all {es : List El} (h : (chkZ es).1 = 0) : flatL (pcsF es []) = prtS 16 es := by
  cases es with
  | nil => cases h
  | cons e r =>
    unfold chkZ at h
    rw [if_neg (List.cons_ne_nil _ _)] at h
    obtain ⟨ht, -, -⟩ := chkF_ok _ _ _ h
    have h2 : ∀ x ∈ r, 2 ≤ x.d := by
      unfold chkF at h
      split at h
      · exact (chkF_ok _ _ _ h).2.1 (by omega)
      · rename_i he; exact absurd h he
    have hd : e.d = 1 := by have := ht.1; have := ht.2.1; omega
    have m := pcs_main _ (e :: r) 0 [] 16 (Nat.le_refl _) ht rfl (by omega)
    have hk : kidsS ((0 : Nat) : Int) (e :: r) = [e :: r] := by
      rw [kidsS, if_pos (by omega), if_pos (by omega), kids_deep r fun x hx => by have := h2 x hx; omega]
    have hs : skipS ((0 : Nat) : Int) (e :: r) = [] := skip_deep _ fun x hx => by
      rcases List.mem_cons.1 hx with rfl | hx
      · omega
      · have := h2 x hx; omega
    rw [hk, hs] at m
    rw [m]
    simp [pcsF, shutL, flatL]
/-- Print takes these pieces. -/
theorem chn_app : ∀ (a b : List IT) (last : Int), (∀ t ∈ a, t.k = 4 ∧ xmlNameB t.nm = true ∧ t.vl = E0) → inT last = false → (∀ l : Int, (l = last ∨ l = 4) → Chn l b) → Chn last (a ++ b)
  | [], b, last, _, _, hb => hb last (.inl rfl)
  | t :: a, b, last, ha, hl, hb => by
    obtain ⟨h1, h2, h3⟩ := ha t (by simp)
    refine ⟨fits_put (k := 4) h1 ⟨by decide, fun h => absurd h (by decide), fun _ => h3, hl.symm, fun h => absurd h (by decide), fun h => absurd h (by decide), fun _ => h2, by rw [h3]; exact vx_nil, fun h => absurd h (by decide), fun h => absurd h (by decide)⟩, ?_⟩
    rw [h1]
    exact chn_app a b 4 (fun t ht => ha t (by simp [ht])) (by decide) fun l hl => hb l (.inr (by rcases hl with h | h <;> exact h))
theorem chn_ats : ∀ (l : List Att) (b : List IT) (last : Int), (∀ a ∈ l, xmlNameB a.nm = true ∧ VX (lOf a.vl)) → inT last = true → (∀ k : Int, inT k = true → Chn k b) → Chn last (l.map pcA ++ b)
  | [], b, last, _, hl, hb => hb last hl
  | a :: l, b, last, h, hl, hb => by
    obtain ⟨h2, h3⟩ := h a (by simp)
    exact ⟨fits_put (k := 1) rfl ⟨by decide, fun h => absurd h (by decide), fun h => absurd h (by decide), hl.symm, fun h => absurd h (by decide), fun h => absurd h (by decide), fun _ => h2, h3, fun h => absurd h (by decide), fun h => absurd h (by decide)⟩, chn_ats l b 1 (fun x hx => h x (by simp [hx])) rfl hb⟩
theorem chn_pcs : ∀ (r : List El) (a : Int) (st : List ByteArray) (last : Int), Tr a r → (∀ nm ∈ st, xmlNameB nm = true) → inT last = false → Chn last (pcsF r st)
  | [], a, st, last, _, hst, hl => by
    unfold pcsF
    rw [← List.append_nil (shutL st 0)]
    refine chn_app _ _ last (fun t ht => ?_) hl fun l hl2 => ?_
    · obtain ⟨nm, hm, rfl⟩ := List.mem_map.1 ht
      exact ⟨rfl, hst nm (List.mem_of_mem_take hm), rfl⟩
    · rcases hl2 with rfl | rfl
      · exact hl
      · rfl
  | e :: r, a, st, last, ⟨h1, h2, h3, h4, h5⟩, hst, hl => by
    unfold pcsF
    refine chn_app _ _ last (fun t ht => ?_) hl fun l hl2 => ?_
    · obtain ⟨nm, hm, rfl⟩ := List.mem_map.1 ht
      exact ⟨rfl, hst nm (List.mem_of_mem_take hm), rfl⟩
    · have hll : inT l = false := by
        rcases hl2 with rfl | rfl
        · exact hl
        · rfl
      have hcut : ∀ nm ∈ cutS st (e.d - 1).toNat, xmlNameB nm = true := fun nm hm => hst nm (List.mem_of_mem_drop hm)
      unfold putP putS
      refine ⟨fits_put (k := 0) rfl ⟨by decide, fun h => absurd h (by decide), fun _ => rfl, hll.symm, fun h => absurd h (by decide), fun h => absurd h (by decide), fun _ => h4.nm, vx_nil, fun h => absurd h (by decide), fun h => absurd h (by decide)⟩, ?_⟩
      show Chn 0 ((_ ++ _) ++ _)
      rw [List.append_assoc]
      refine chn_ats e.ats _ _ h4.ats rfl fun k hk => ?_
      split
      · refine ⟨fits_put (k := 3) rfl ⟨by decide, fun _ => rfl, fun _ => rfl, hk.symm, fun h => absurd h (by decide), fun h => absurd h (by decide), fun h => absurd h (by decide), vx_nil, fun h => absurd h (by decide), fun h => absurd h (by decide)⟩, ?_⟩
        exact chn_pcs r e.d _ 3 h5 hcut rfl
      · have hcons : ∀ nm ∈ e.nm :: cutS st (e.d - 1).toNat, xmlNameB nm = true := fun nm hm => by
          rcases List.mem_cons.1 hm with rfl | hm
          · exact h4.nm
          · exact hcut nm hm
        refine ⟨fits_put (k := 2) rfl ⟨by decide, fun _ => rfl, fun _ => rfl, hk.symm, fun h => absurd h (by decide), fun h => absurd h (by decide), fun h => absurd h (by decide), vx_nil, fun h => absurd h (by decide), fun h => absurd h (by decide)⟩, ?_⟩
        split
        · exact chn_pcs r e.d _ 2 h5 hcons rfl
        · rename_i hz
          refine ⟨fits_put (k := 5) rfl ⟨by decide, fun _ => rfl, fun h => absurd h (by decide), rfl, fun h => absurd h (by decide), fun _ => ⟨?_, by decide⟩, fun h => absurd h (by decide), h4.tx, fun h => absurd h (by decide), fun h => absurd h (by decide)⟩, chn_pcs r e.d _ 5 h5 hcons rfl⟩
          show 0 < e.tx.size
          omega
theorem chn_all {es : List El} (h : (chkZ es).1 = 0) : Chn (-1) (pcsF es []) := by
  unfold chkZ at h
  split at h
  · cases h
  · exact chn_pcs es 0 [] (-1) (chkF_ok _ _ _ h).1 (fun nm hm => by cases hm) rfl
/-- Kids by number are kids as what lies behind. -/
theorem kids_map (es : List El) (d : Int) : ∀ (r : List El) (k : Nat), r = es.drop k → (kidsG d r k).map (fun j => es.drop j) = kidsS d r
  | [], _, _ => rfl
  | e :: r, k, h => by
    have h2 : r = es.drop (k + 1) := by
      have := congrArg (List.drop 1) h
      rw [List.drop_drop] at this
      simpa using this
    unfold kidsG kidsS
    split
    · split
      · rw [List.map_cons, kids_map es d r (k + 1) h2, ← h]
      · exact kids_map es d r (k + 1) h2
    · rfl
/-- How many pieces. -/
theorem pcsF_len : ∀ (r : List El) (a : Int) (st : List ByteArray), Tr a r → (pcsF r st).length ≤ st.length + r.length * 28
  | [], _, st, _ => by unfold pcsF shutL; rw [List.length_map, List.length_take]; omega
  | e :: r, a, st, ⟨h1, h2, h3, h4, h5⟩ => by
    unfold pcsF
    have ih := pcsF_len r e.d (putS e (holdsB e r) (cutS st (e.d - 1).toNat)) h5
    have hp : (putS e (holdsB e r) (cutS st (e.d - 1).toNat)).length ≤ 1 + (cutS st (e.d - 1).toNat).length := by
      unfold putS
      split
      · omega
      · rw [List.length_cons]; omega
    have hq : (putP e (holdsB e r)).length ≤ 27 := by
      have := h4.a24
      unfold putP
      split
      · simp; omega
      · split
        · simp; omega
        · simp; omega
    have hs : (shutL st (e.d - 1).toNat).length + (cutS st (e.d - 1).toNat).length = st.length := by
      unfold shutL cutS
      rw [List.length_map, List.length_take, List.length_drop]
      omega
    rw [List.length_append, List.length_append, List.length_cons]
    omega
/-- Print's answer. -/
def prtZ (es : List El) : List Nat × Nat × Nat :=
  if (chkZ es).1 = 0 then (if (prtS 16 es).length ≤ 1048576 then (prtS 16 es, 0, 0) else ([], 45, es.length)) else ([], (chkZ es).1, (chkZ es).2)
theorem chk_len {es : List El} (h : (chkZ es).1 = 0) : es.length ≤ 20000 ∧ es ≠ [] := by
  unfold chkZ at h
  split at h
  · cases h
  · rename_i hn
    exact ⟨by have := (chkF_ok _ _ _ h).2.2 hn; omega, hn⟩
theorem chk_tr {es : List El} (h : (chkZ es).1 = 0) : Tr 0 es := by
  unfold chkZ at h
  split at h
  · cases h
  · exact (chkF_ok _ _ _ h).1
theorem chk_zero {es : List El} (h : (chkZ es).1 = 0) : chkZ es = (0, 0) := by
  unfold chkZ at h ⊢
  split at h
  · cases h
  · rename_i hn
    rw [if_neg hn]
    exact chkF_zero _ _ _ h
end Go.Proofs.YtchfphakhmifmaaGreatDoor
