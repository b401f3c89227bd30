/- The document's answer: Decode: the mathematics. -/
import Derived.Test.YtmnjpkeeoeoegaaGreatDoorRef2
import Derived.Test.YtmnjpkeeoeoegaaGreatDoorHex2
namespace Go.Proofs.YtmnjpkeeoeoegaaGreatDoor

def vI (s : ByteArray) (n : Nat) : Int :=
  if n = 1 then (ch s 0 : Int) else
  if n = 2 then ((ch s 0 : Int) - 192) * 64 + (ch s 1 : Int) - 128 else
  if n = 3 then (((ch s 0 : Int) - 224) * 64 + (ch s 1 : Int) - 128) * 64 + (ch s 2 : Int) - 128 else
  ((((ch s 0 : Int) - 240) * 64 + (ch s 1 : Int) - 128) * 64 + (ch s 2 : Int) - 128) * 64 + (ch s 3 : Int) - 128
def hitP (s : ByteArray) (n : Nat) : Prop := n ≤ s.size ∧ (encI (vI s n)).length = n ∧ (lOf s).take n = encI (vI s n)
theorem take_ch (s : ByteArray) : ∀ n, n ≤ s.size → (lOf s).take n = (List.range n).map (ch s)
  | 0, _ => rfl
  | n + 1, h => by
    rw [List.range_succ, List.map_append, ← take_ch s n (by omega), take_succ_ch s n (by omega)]
    rfl
theorem encI_len (v : Int) : (encI v).length = if goodI v then (if v < 128 then 1 else if v < 2048 then 2 else if v < 65536 then 3 else 4) else 0 := by
  unfold encI
  by_cases h : goodI v
  · have h' := h
    unfold goodI at h'
    rw [if_pos h, if_pos h]
    unfold encN
    by_cases h1 : v < 128
    · rw [if_pos (by omega), if_pos h1]; rfl
    · rw [if_neg (by omega), if_neg h1]
      by_cases h2 : v < 2048
      · rw [if_pos (by omega), if_pos h2]; rfl
      · rw [if_neg (by omega), if_neg h2]
        by_cases h3 : v < 65536
        · rw [if_pos (by omega), if_pos h3]; rfl
        · rw [if_neg (by omega), if_neg h3]; rfl
  · rw [if_neg h, if_neg h]; rfl
theorem hit1 (s : ByteArray) : hitP s 1 ↔ 1 ≤ s.size ∧ ch s 0 < 128 := by
  unfold hitP
  have hv : vI s 1 = (ch s 0 : Int) := rfl
  rw [hv, encI_len]
  constructor
  · rintro ⟨h1, h2, -⟩
    refine ⟨h1, ?_⟩
    split at h2
    · split at h2
      · omega
      · split at h2
        · omega
        · split at h2 <;> omega
    · omega
  · rintro ⟨h1, h2⟩
    have hg : goodI (ch s 0 : Int) := by unfold goodI; omega
    refine ⟨h1, by rw [if_pos hg, if_pos (by omega)], ?_⟩
    rw [take_ch s 1 h1]
    unfold encI encN
    rw [if_pos hg, if_pos (by omega)]
    rfl
theorem hit2 (s : ByteArray) : hitP s 2 ↔ 2 ≤ s.size ∧ 194 ≤ ch s 0 ∧ ch s 0 ≤ 223 ∧ 128 ≤ ch s 1 ∧ ch s 1 ≤ 191 := by
  unfold hitP
  obtain ⟨v, hv⟩ : ∃ v, v = vI s 2 := ⟨_, rfl⟩
  have hv' : v = ((ch s 0 : Int) - 192) * 64 + (ch s 1 : Int) - 128 := hv
  rw [← hv]
  have b0 := ch_lt s 0
  have b1 := ch_lt s 1
  constructor
  · rintro ⟨h1, h2, h3⟩
    have hl := h2
    rw [encI_len] at hl
    rw [take_ch s 2 h1] at h3
    have hr : goodI v ∧ 128 ≤ v ∧ v < 2048 := by
      split at hl
      · rename_i hg
        split at hl
        · omega
        · split at hl
          · exact ⟨hg, by omega, by omega⟩
          · split at hl <;> omega
      · omega
    unfold encI encN at h3
    rw [if_pos hr.1, if_neg (by omega), if_pos (by omega)] at h3
    have e0 : ch s 0 = 192 + v.toNat / 64 := by injection h3
    have e1 : ch s 1 = 128 + v.toNat % 64 := by injection h3 with _ h3; injection h3
    omega
  · rintro ⟨h1, h2, h3, h4, h5⟩
    have hg : goodI v := by unfold goodI; omega
    refine ⟨h1, by rw [encI_len, if_pos hg, if_neg (by omega), if_pos (by omega)], ?_⟩
    rw [take_ch s 2 h1]
    unfold encI encN
    rw [if_pos hg, if_neg (by omega), if_pos (by omega)]
    show [ch s 0, ch s 1] = _
    rw [show 192 + v.toNat / 64 = ch s 0 by omega, show 128 + v.toNat % 64 = ch s 1 by omega]
theorem hit3 (s : ByteArray) : hitP s 3 ↔ 3 ≤ s.size ∧ 224 ≤ ch s 0 ∧ ch s 0 ≤ 239 ∧ 128 ≤ ch s 1 ∧ ch s 1 ≤ 191 ∧ (ch s 0 = 224 → 160 ≤ ch s 1) ∧ (ch s 0 = 237 → ch s 1 ≤ 159) ∧ 128 ≤ ch s 2 ∧ ch s 2 ≤ 191 := by
  unfold hitP
  obtain ⟨v, hv⟩ : ∃ v, v = vI s 3 := ⟨_, rfl⟩
  have hv' : v = (((ch s 0 : Int) - 224) * 64 + (ch s 1 : Int) - 128) * 64 + (ch s 2 : Int) - 128 := hv
  rw [← hv]
  have b0 := ch_lt s 0
  have b1 := ch_lt s 1
  have b2 := ch_lt s 2
  constructor
  · rintro ⟨h1, h2, h3⟩
    have hl := h2
    rw [encI_len] at hl
    rw [take_ch s 3 h1] at h3
    have hr : goodI v ∧ 2048 ≤ v ∧ v < 65536 := by
      split at hl
      · rename_i hg
        split at hl
        · omega
        · split at hl
          · omega
          · split at hl
            · exact ⟨hg, by omega, by omega⟩
            · omega
      · omega
    have hg := hr.1
    unfold goodI at hg
    unfold encI encN at h3
    rw [if_pos hr.1, if_neg (by omega), if_neg (by omega), if_pos (by omega)] at h3
    have e0 : ch s 0 = 224 + v.toNat / 4096 := by injection h3
    have e1 : ch s 1 = 128 + v.toNat / 64 % 64 := by injection h3 with _ h3; injection h3
    have e2 : ch s 2 = 128 + v.toNat % 64 := by injection h3 with _ h3; injection h3 with _ h3; injection h3
    omega
  · rintro ⟨h1, h2, h3, h4, h5, h6, h7, h8, h9⟩
    have hg : goodI v := by unfold goodI; omega
    have r1 : 2048 ≤ v := by omega
    have r2 : v < 65536 := by omega
    refine ⟨h1, by rw [encI_len, if_pos hg, if_neg (by omega), if_neg (by omega), if_pos r2], ?_⟩
    rw [take_ch s 3 h1]
    unfold encI encN
    rw [if_pos hg, if_neg (by omega), if_neg (by omega), if_pos (by omega)]
    show [ch s 0, ch s 1, ch s 2] = _
    rw [show 224 + v.toNat / 4096 = ch s 0 by omega, show 128 + v.toNat / 64 % 64 = ch s 1 by omega, show 128 + v.toNat % 64 = ch s 2 by omega]
theorem hit4 (s : ByteArray) : hitP s 4 ↔ 4 ≤ s.size ∧ 240 ≤ ch s 0 ∧ ch s 0 ≤ 244 ∧ 128 ≤ ch s 1 ∧ ch s 1 ≤ 191 ∧ (ch s 0 = 240 → 144 ≤ ch s 1) ∧ (ch s 0 = 244 → ch s 1 ≤ 143) ∧ 128 ≤ ch s 2 ∧ ch s 2 ≤ 191 ∧ 128 ≤ ch s 3 ∧ ch s 3 ≤ 191 := by
  unfold hitP
  obtain ⟨v, hv⟩ : ∃ v, v = vI s 4 := ⟨_, rfl⟩
  have hv' : v = ((((ch s 0 : Int) - 240) * 64 + (ch s 1 : Int) - 128) * 64 + (ch s 2 : Int) - 128) * 64 + (ch s 3 : Int) - 128 := hv
  rw [← hv]
  have b0 := ch_lt s 0
  have b1 := ch_lt s 1
  have b2 := ch_lt s 2
  have b3 := ch_lt s 3
  constructor
  · rintro ⟨h1, h2, h3⟩
    have hl := h2
    rw [encI_len] at hl
    rw [take_ch s 4 h1] at h3
    have hr : goodI v ∧ 65536 ≤ v := by
      split at hl
      · rename_i hg
        split at hl
        · omega
        · split at hl
          · omega
          · split at hl
            · omega
            · exact ⟨hg, by omega⟩
      · omega
    have hg := hr.1
    unfold goodI at hg
    unfold encI encN at h3
    rw [if_pos hr.1, if_neg (by omega), if_neg (by omega), if_neg (by omega)] at h3
    have e0 : ch s 0 = 240 + v.toNat / 262144 := by injection h3
    have e1 : ch s 1 = 128 + v.toNat / 4096 % 64 := by injection h3 with _ h3; injection h3
    have e2 : ch s 2 = 128 + v.toNat / 64 % 64 := by injection h3 with _ h3; injection h3 with _ h3; injection h3
    have e3 : ch s 3 = 128 + v.toNat % 64 := by injection h3 with _ h3; injection h3 with _ h3; injection h3 with _ h3; injection h3
    omega
  · rintro ⟨h1, h2, h3, h4, h5, h6, h7, h8, h9, h10, h11⟩
    have r1 : 65536 ≤ v := by omega
    have r2 : v ≤ 1114111 := by omega
    have hg : goodI v := by unfold goodI; omega
    refine ⟨h1, by rw [encI_len, if_pos hg, if_neg (by omega), if_neg (by omega), if_neg (by omega)], ?_⟩
    rw [take_ch s 4 h1]
    unfold encI encN
    rw [if_pos hg, if_neg (by omega), if_neg (by omega), if_neg (by omega)]
    show [ch s 0, ch s 1, ch s 2, ch s 3] = _
    rw [show 240 + v.toNat / 262144 = ch s 0 by omega, show 128 + v.toNat / 4096 % 64 = ch s 1 by omega, show 128 + v.toNat / 64 % 64 = ch s 2 by omega, show 128 + v.toNat % 64 = ch s 3 by omega]
theorem seq_hit1 (s : ByteArray) (h : hitP s 1) : seqN s = ((vI s 1).toNat, 1) := by
  rw [hit1] at h
  have r : rsz (ch s 0) = 1 := by unfold rsz; rw [if_pos (by omega)]
  unfold seqN
  simp only [r]
  rw [if_pos (by unfold begB; rw [decide_eq_true h.1]; rfl), if_pos trivial]
  rfl
theorem beg_tail (c : Nat) : tailB c = true ↔ 128 ≤ c ∧ c ≤ 191 := by unfold tailB; simp
theorem seq_hit2 (s : ByteArray) (h : hitP s 2) : seqN s = ((vI s 2).toNat, 2) := by
  have hv : vI s 2 = ((ch s 0 : Int) - 192) * 64 + (ch s 1 : Int) - 128 := rfl
  rw [hit2] at h
  have r : rsz (ch s 0) = 2 := by unfold rsz; rw [if_neg (by omega), if_neg (by omega), if_pos (by omega)]
  have lo : rlo (ch s 0) = 128 := by unfold rlo; rw [if_neg (by omega), if_neg (by omega), if_pos (by omega)]
  have hi : rhi (ch s 0) = 191 := by unfold rhi; rw [if_neg (by omega), if_neg (by omega), if_pos (by omega)]
  unfold seqN
  simp only [r, lo, hi]
  rw [if_pos (by unfold begB; simp; omega), if_neg (by decide)]
  simp only [accN, Prod.mk.injEq, and_true, Nat.reduceAdd]
  omega
theorem seq_hit3 (s : ByteArray) (h : hitP s 3) : seqN s = ((vI s 3).toNat, 3) := by
  have hv : vI s 3 = (((ch s 0 : Int) - 224) * 64 + (ch s 1 : Int) - 128) * 64 + (ch s 2 : Int) - 128 := rfl
  rw [hit3] at h
  have r : rsz (ch s 0) = 3 := by unfold rsz; rw [if_neg (by omega), if_neg (by omega), if_neg (by omega), if_pos (by omega)]
  have lo : rlo (ch s 0) ≤ ch s 1 := by unfold rlo; rw [if_neg (by omega), if_neg (by omega), if_neg (by omega)]; split; omega; rw [if_pos (by omega)]; omega
  have hi : ch s 1 ≤ rhi (ch s 0) := by unfold rhi; rw [if_neg (by omega), if_neg (by omega), if_neg (by omega)]; split; omega; rw [if_pos (by omega)]; omega
  have t2 := (beg_tail (ch s 2)).2 (by omega)
  unfold seqN
  simp only [r]
  rw [if_pos (by unfold begB; simp [t2, lo, hi]; omega), if_neg (by decide)]
  simp only [accN, Prod.mk.injEq, and_true, Nat.reduceAdd]
  omega
theorem seq_hit4 (s : ByteArray) (h : hitP s 4) : seqN s = ((vI s 4).toNat, 4) := by
  have hv : vI s 4 = ((((ch s 0 : Int) - 240) * 64 + (ch s 1 : Int) - 128) * 64 + (ch s 2 : Int) - 128) * 64 + (ch s 3 : Int) - 128 := rfl
  rw [hit4] at h
  have r : rsz (ch s 0) = 4 := by unfold rsz; rw [if_neg (by omega), if_neg (by omega), if_neg (by omega), if_neg (by omega), if_pos (by omega)]
  have lo : rlo (ch s 0) ≤ ch s 1 := by unfold rlo; rw [if_neg (by omega), if_neg (by omega), if_neg (by omega), if_neg (by omega), if_neg (by omega)]; split; omega; rw [if_pos (by omega)]; omega
  have hi : ch s 1 ≤ rhi (ch s 0) := by unfold rhi; rw [if_neg (by omega), if_neg (by omega), if_neg (by omega), if_neg (by omega)]; split; omega; rw [if_pos (by omega)]; omega
  have t2 := (beg_tail (ch s 2)).2 (by omega)
  have t3 := (beg_tail (ch s 3)).2 (by omega)
  unfold seqN
  simp only [r]
  rw [if_pos (by unfold begB; simp [t2, t3, lo, hi]; omega), if_neg (by decide)]
  simp only [accN, Prod.mk.injEq, and_true, Nat.reduceAdd]
  omega
theorem seq_none (s : ByteArray) (h1 : ¬ hitP s 1) (h2 : ¬ hitP s 2) (h3 : ¬ hitP s 3) (h4 : ¬ hitP s 4) : seqN s = (0, 0) := by
  rw [hit1] at h1
  rw [hit2] at h2
  rw [hit3] at h3
  rw [hit4] at h4
  unfold seqN
  dsimp only
  rw [if_neg]
  intro hb
  unfold begB at hb
  simp only [Bool.and_eq_true, Bool.or_eq_true, decide_eq_true_eq, beg_tail] at hb
  obtain ⟨b1, b2⟩ := hb
  unfold rsz at b1 b2
  unfold rlo rhi at b2
  by_cases c1 : ch s 0 ≤ 127
  · rw [if_pos c1] at b1; omega
  · simp only [c1, if_false] at b1 b2
    by_cases c2 : ch s 0 < 194
    · simp only [c2, if_true] at b1 b2; omega
    · simp only [c2, if_false] at b1 b2
      by_cases c3 : ch s 0 ≤ 223
      · simp only [c3, if_true] at b1 b2; omega
      · simp only [c3, if_false] at b1 b2
        by_cases c4 : ch s 0 ≤ 239
        · simp only [c4, if_true] at b1 b2
          by_cases c5 : ch s 0 = 224
          · simp only [c5, if_true] at b1 b2; simp at b2; omega
          · by_cases c6 : ch s 0 = 237
            · simp only [c6, if_true] at b1 b2; simp at b2; omega
            · simp only [c5, c6, if_false] at b1 b2
              rw [if_pos (show ch s 0 ≤ 243 by omega)] at b2
              omega
        · simp only [c4, if_false] at b1 b2
          by_cases c7 : ch s 0 ≤ 244
          · simp only [c7, if_true] at b1 b2
            have n1 : ¬ ch s 0 = 224 := by omega
            have n2 : ¬ ch s 0 = 237 := by omega
            simp only [n1, n2, if_false] at b1 b2
            by_cases c8 : ch s 0 = 240
            · simp only [c8, if_true] at b1 b2; simp at b2; omega
            · simp only [c8, if_false] at b1 b2
              by_cases c9 : ch s 0 ≤ 243
              · rw [if_pos c9] at b2; omega
              · rw [if_neg c9, if_pos (show ch s 0 = 244 by omega)] at b2; omega
          · simp only [c7, if_false] at b1 b2; omega
end Go.Proofs.YtmnjpkeeoeoegaaGreatDoor
