/- Characters of XML as rows of bytes; what has no fault. -/
import Derived.Test.YtchfphakhmifmaaGreatDoorPtsMath
import Derived.Test.YtchfphakhmifmaaGreatDoorMB
import Derived.Test.YtchfphakhmifmaaGreatDoorMA
namespace Go.Proofs.YtchfphakhmifmaaGreatDoor

/-- Characters of XML, one behind the other. -/
def VX (l : List Nat) : Prop := ∃ cs : List Nat, (∀ c ∈ cs, xmlB (c : Int) = true) ∧ l = cs.flatMap encN
theorem vx_nil : VX [] := ⟨[], by simp, rfl⟩
theorem vx_app {x y : List Nat} (hx : VX x) (hy : VX y) : VX (x ++ y) := by
  obtain ⟨a, ha, rfl⟩ := hx
  obtain ⟨b, hb, rfl⟩ := hy
  refine ⟨a ++ b, fun c hc => ?_, by rw [List.flatMap_append]⟩
  rcases List.mem_append.1 hc with h | h
  · exact ha c h
  · exact hb c h
theorem enc_low {n : Nat} (h : n < 128) : encN n = [n] := by unfold encN; rw [if_pos h]
theorem enc_high {n : Nat} (h : ¬ n < 128) : encN n ≠ [] ∧ ∀ b ∈ encN n, 128 ≤ b := by
  unfold encN
  rw [if_neg h]
  split
  · exact ⟨by simp, by intro b hb; simp at hb; omega⟩
  · split
    · exact ⟨by simp, by intro b hb; simp at hb; omega⟩
    · exact ⟨by simp, by intro b hb; simp at hb; omega⟩
theorem vx_enc {n : Nat} (h : xmlB (n : Int) = true) : VX (encN n) := ⟨[n], by simpa using h, by simp⟩
theorem vx_one {c : Nat} (h : c < 128) (hx : xmlB (c : Int) = true) : VX [c] := by rw [← enc_low h]; exact vx_enc hx
theorem vx_all {l : List Nat} (h : ∀ c ∈ l, c < 128 ∧ xmlB (c : Int) = true) : VX l := by
  induction l with
  | nil => exact vx_nil
  | cons c l ih =>
    have := vx_app (vx_one (h c (by simp)).1 (h c (by simp)).2) (ih (fun d hd => h d (by simp [hd])))
    simpa using this
theorem vx_split : ∀ {x y : List Nat} {c : Nat}, VX (x ++ c :: y) → c < 128 → VX x ∧ xmlB (c : Int) = true ∧ VX y := by
  intro x y c ⟨cs, hcs, e⟩ hc
  induction cs generalizing x with
  | nil => simp at e
  | cons d cs ih =>
    rw [List.flatMap_cons] at e
    have hd := hcs d (by simp)
    have hr := fun z hz => hcs z (List.mem_cons_of_mem _ hz)
    by_cases hl : (encN d).length ≤ x.length
    · obtain ⟨x', rfl⟩ : ∃ x', x = encN d ++ x' := by
        refine ⟨x.drop (encN d).length, ?_⟩
        have h1 := congrArg (List.take (encN d).length) e
        rw [List.take_append_of_le_length hl, List.take_left] at h1
        conv => lhs; rw [← List.take_append_drop (encN d).length x, h1]
      rw [List.append_assoc, List.append_cancel_left_eq] at e
      obtain ⟨h1, h2, h3⟩ := ih hr e
      exact ⟨vx_app (vx_enc hd) h1, h2, h3⟩
    · have hin : c ∈ encN d := by
        have h1 := congrArg (fun l => l[x.length]?) e
        rw [List.getElem?_append_right (Nat.le_refl _), Nat.sub_self, List.getElem?_cons_zero, List.getElem?_append_left (by omega)] at h1
        exact List.mem_of_getElem? h1.symm
      by_cases h8 : d < 128
      · rw [enc_low h8] at hin hl e
        have : x = [] := by
          cases x with
          | nil => rfl
          | cons _ _ => simp at hl
        subst this
        have hdc : c = d := by simpa using hin
        subst hdc
        simp at e
        exact ⟨vx_nil, hd, ⟨cs, hr, e⟩⟩
      · have := (enc_high h8).2 c hin
        omega
theorem ch_cons {t : ByteArray} {c : Nat} {r : List Nat} (h : lOf t = c :: r) : ch t 0 = c := by rw [ch_lOf, h]; rfl
theorem xml_bd {n : Nat} (h : xmlB (n : Int) = true) : n ≤ 1114111 ∧ (n ≤ 55295 ∨ 57344 ≤ n) := by
  unfold xmlB at h
  simp only [Bool.or_eq_true, Bool.and_eq_true, decide_eq_true_eq] at h
  omega
theorem seq_enc {t : ByteArray} {n : Nat} {r : List Nat} (h : lOf t = encN n ++ r) (hx : xmlB (n : Int) = true) : seqN t = (n, (encN n).length) := by
  have hb := xml_bd hx
  have hz : t.size = (encN n).length + r.length := by rw [← lOf_length, h, List.length_append]
  have hc : ∀ i, i < (encN n).length → ch t i = (encN n).getD i 0 := by
    intro i hi
    rw [ch_lOf, h]
    simp only [List.getD]
    rw [List.getElem?_append_left hi]
  revert hz hc
  unfold encN
  split
  · rename_i h1
    intro hz hc
    have c0 : ch t 0 = n := hc 0 (by simp)
    rw [seq1 t (by rw [hz]; exact Nat.le_add_right _ _) (by omega), c0]; rfl
  · split
    · rename_i h1 h2
      intro hz hc
      have c0 : ch t 0 = 192 + n / 64 := hc 0 (by simp)
      have c1 : ch t 1 = 128 + n % 64 := hc 1 (by simp)
      rw [seq2 t (by rw [hz]; exact Nat.le_add_right _ _) (by omega) (by omega) (by omega) (by omega), c0, c1]
      simp only [List.length_cons, List.length_nil, Prod.mk.injEq]
      exact ⟨by omega, trivial⟩
    · split
      · rename_i h1 h2 h3
        intro hz hc
        have c0 : ch t 0 = 224 + n / 4096 := hc 0 (by simp)
        have c1 : ch t 1 = 128 + n / 64 % 64 := hc 1 (by simp)
        have c2 : ch t 2 = 128 + n % 64 := hc 2 (by simp)
        have l1 := lo3 (ch t 0) (by omega) (by omega)
        have l2 := hi3 (ch t 0) (by omega) (by omega)
        rw [seq3 t (by rw [hz]; exact Nat.le_add_right _ _) (by omega) (by omega) (by rw [l1, c0, c1]; split <;> omega) (by rw [l2, c0, c1]; split <;> omega) (by omega) (by omega), c0, c1, c2]
        simp only [List.length_cons, List.length_nil, Prod.mk.injEq]
        exact ⟨by omega, trivial⟩
      · rename_i h1 h2 h3
        intro hz hc
        have c0 : ch t 0 = 240 + n / 262144 := hc 0 (by simp)
        have c1 : ch t 1 = 128 + n / 4096 % 64 := hc 1 (by simp)
        have c2 : ch t 2 = 128 + n / 64 % 64 := hc 2 (by simp)
        have c3 : ch t 3 = 128 + n % 64 := hc 3 (by simp)
        have l1 := lo4 (ch t 0) (by omega) (by omega)
        have l2 := hi4 (ch t 0) (by omega) (by omega)
        rw [seq4 t (by rw [hz]; exact Nat.le_add_right _ _) (by omega) (by omega) (by rw [l1, c0, c1]; split <;> omega) (by rw [l2, c0, c1]; split <;> omega) (by omega) (by omega) (by omega) (by omega), c0, c1, c2, c3]
        simp only [List.length_cons, List.length_nil, Prod.mk.injEq]
        exact ⟨by omega, trivial⟩
theorem lof_cons (t : ByteArray) (k : Nat) (h : k < t.size) : (lOf t).drop k = ch t k :: (lOf t).drop (k + 1) := by
  have h2 : k < (lOf t).length := by rw [lOf_length]; exact h
  rw [List.drop_eq_getElem_cons h2, ch_lOf]
  simp [List.getD, h2]
theorem seq_dec {t : ByteArray} (h0 : 0 < t.size) (h : (seqN t).2 ≠ 0) : lOf t = encN (seqN t).1 ++ (lOf t).drop (seqN t).2 := by
  have l0 := lof_cons t 0 h0
  rw [List.drop_zero] at l0
  have hb : begB (rsz (ch t 0)) (rlo (ch t 0)) (rhi (ch t 0)) t = true := by
    unfold seqN at h
    dsimp only at h
    split at h
    · assumption
    · exact absurd rfl h
  unfold begB at hb
  simp only [Bool.and_eq_true, Bool.or_eq_true, decide_eq_true_eq] at hb
  obtain ⟨hk, hr⟩ := hb
  by_cases c1 : ch t 0 ≤ 127
  · rw [seq1 t h0 c1, enc_low (by omega)]
    exact l0
  · have hlt : ¬ ch t 0 < 194 := fun hh => h (by rw [seq_none t (by omega) hh])
    have hz : rsz (ch t 0) = 2 ∧ ch t 0 ≤ 223 ∨ rsz (ch t 0) = 3 ∧ 224 ≤ ch t 0 ∧ ch t 0 ≤ 239 ∨ rsz (ch t 0) = 4 ∧ 240 ≤ ch t 0 ∧ ch t 0 ≤ 244 ∨ rsz (ch t 0) = 0 := by
      unfold rsz
      rw [if_neg c1, if_neg hlt]
      split
      · omega
      · split
        · omega
        · split <;> omega
    rcases hz with ⟨e, hc⟩ | ⟨e, hc, hc2⟩ | ⟨e, hc, hc2⟩ | e
    · rw [e] at hk hr
      have l1 := lof_cons t 1 (by omega)
      have r1 : rlo (ch t 0) = 128 := by unfold rlo; rw [if_neg c1, if_neg hlt, if_pos hc]
      have r2 : rhi (ch t 0) = 191 := by unfold rhi; rw [if_neg c1, if_neg hlt, if_pos hc]
      rw [r1, r2] at hr
      have q := seq2 t hk (by omega) hc (by omega) (by omega)
      rw [q]
      dsimp only
      have en : encN ((ch t 0 - 192) * 64 + (ch t 1 - 128)) = [ch t 0, ch t 1] := by
        unfold encN
        rw [if_neg (by omega), if_pos (by omega), List.cons.injEq, List.cons.injEq]
        exact ⟨by omega, by omega, rfl⟩
      rw [en, List.cons_append, List.cons_append, List.nil_append, ← l1]
      exact l0
    · rw [e] at hk hr
      have l1 := lof_cons t 1 (by omega)
      have l2 := lof_cons t 2 (by omega)
      have g1 := lo3 _ hc hc2
      have g2 := hi3 _ hc hc2
      have hr' : rlo (ch t 0) ≤ ch t 1 ∧ ch t 1 ≤ rhi (ch t 0) ∧ tailB (ch t 2) = true := by
        rcases hr with hr | hr
        · omega
        · exact ⟨hr.1.1.1.2, hr.1.1.2, by rcases hr.1.2 with h | h; · omega
                                          · exact h⟩
      obtain ⟨a1, a2, a3⟩ := hr'
      unfold tailB at a3
      simp only [Bool.and_eq_true, decide_eq_true_eq] at a3
      have q := seq3 t hk hc hc2 a1 a2 a3.1 a3.2
      rw [q]
      dsimp only
      rw [g1] at a1
      rw [g2] at a2
      have b1 : 128 ≤ ch t 1 := by split at a1 <;> omega
      have b2 : ch t 1 ≤ 191 := by split at a2 <;> omega
      have b3 : ch t 0 = 224 → 160 ≤ ch t 1 := fun hh => by rwa [if_pos hh] at a1
      have en : encN ((ch t 0 - 224) * 4096 + (ch t 1 - 128) * 64 + (ch t 2 - 128)) = [ch t 0, ch t 1, ch t 2] := by
        unfold encN
        rw [if_neg (by omega), if_neg (by omega), if_pos (by omega), List.cons.injEq, List.cons.injEq, List.cons.injEq]
        exact ⟨by omega, by omega, by omega, rfl⟩
      rw [en, List.cons_append, List.cons_append, List.cons_append, List.nil_append, ← l2, ← l1]
      exact l0
    · rw [e] at hk hr
      have l1 := lof_cons t 1 (by omega)
      have l2 := lof_cons t 2 (by omega)
      have l3 := lof_cons t 3 (by omega)
      have g1 := lo4 _ hc hc2
      have g2 := hi4 _ hc hc2
      have hr' : rlo (ch t 0) ≤ ch t 1 ∧ ch t 1 ≤ rhi (ch t 0) ∧ tailB (ch t 2) = true ∧ tailB (ch t 3) = true := by
        rcases hr with hr | hr
        · omega
        · exact ⟨hr.1.1.1.2, hr.1.1.2, by rcases hr.1.2 with h | h; · omega
                                          · exact h, by rcases hr.2 with h | h; · omega
                                                        · exact h⟩
      obtain ⟨a1, a2, a3, a4⟩ := hr'
      unfold tailB at a3 a4
      simp only [Bool.and_eq_true, decide_eq_true_eq] at a3 a4
      have q := seq4 t hk hc hc2 a1 a2 a3.1 a3.2 a4.1 a4.2
      rw [q]
      dsimp only
      rw [g1] at a1
      rw [g2] at a2
      have b1 : 128 ≤ ch t 1 := by split at a1 <;> omega
      have b2 : ch t 1 ≤ 191 := by split at a2 <;> omega
      have b3 : ch t 0 = 240 → 144 ≤ ch t 1 := fun hh => by rwa [if_pos hh] at a1
      have en : encN ((ch t 0 - 240) * 262144 + (ch t 1 - 128) * 4096 + (ch t 2 - 128) * 64 + (ch t 3 - 128)) = [ch t 0, ch t 1, ch t 2, ch t 3] := by
        unfold encN
        rw [if_neg (by omega), if_neg (by omega), if_neg (by omega), List.cons.injEq, List.cons.injEq, List.cons.injEq, List.cons.injEq]
        exact ⟨by omega, by omega, by omega, by omega, rfl⟩
      rw [en, List.cons_append, List.cons_append, List.cons_append, List.cons_append, List.nil_append, ← l3, ← l2, ← l1]
      exact l0
    · exfalso
      rw [e] at hr
      omega
theorem lof_from (s : ByteArray) (a : Nat) : lOf (s.extract a s.size) = (lOf s).drop a := by
  rw [lOf_extract, List.take_of_length_le (by rw [List.length_drop, lOf_length]; omega)]
/-- No fault from a place on: characters of XML. -/
theorem fault_vx (s : ByteArray) : ∀ (n a : Nat), s.size - a < n → a ≤ s.size → ((faultF xmlB s (s.size + 1) a).1 = 0 ↔ VX ((lOf s).drop a))
  | 0, a, hn, _ => by omega
  | n + 1, a, hn, ha => by
    by_cases h : s.size ≤ a
    · have e : (lOf s).drop a = [] := List.drop_eq_nil_of_le (by rw [lOf_length]; exact h)
      rw [faultF, if_pos h, e]
      exact ⟨fun _ => vx_nil, fun _ => rfl⟩
    · have hz : (s.extract a s.size).size = s.size - a := size_ext s a s.size (Nat.le_refl _)
      rw [fault_step xmlB s a (by omega)]
      constructor
      · intro hf
        by_cases h2 : (seqN (s.extract a s.size)).2 = 0
        · rw [if_pos h2] at hf; exact absurd hf (by simp)
        · rw [if_neg h2] at hf
          by_cases hx : xmlB ((seqN (s.extract a s.size)).1 : Int) = true
          · rw [if_pos hx] at hf
            have hd := seq_dec (by omega) h2
            have hle := seqN_size_le (s.extract a s.size)
            have ih := (fault_vx s n (a + (seqN (s.extract a s.size)).2) (by omega) (by omega)).1 hf
            rw [lof_from] at hd
            rw [hd, List.drop_drop]
            exact vx_app (vx_enc hx) ih
          · rw [if_neg hx] at hf; exact absurd hf (by simp)
      · rintro ⟨cs, hcs, e⟩
        cases cs with
        | nil =>
          have := congrArg List.length e
          rw [List.length_drop, lOf_length] at this
          simp at this
          omega
        | cons c cs =>
          have hx := hcs c (by simp)
          rw [List.flatMap_cons, ← lof_from] at e
          have q := seq_enc e hx
          have hl : 0 < (encN c).length := by
            by_cases h8 : c < 128
            · rw [enc_low h8]; simp
            · exact List.length_pos_iff.2 (enc_high h8).1
          rw [q]
          dsimp only
          rw [if_neg (by omega), if_pos hx]
          have hle := congrArg List.length e
          rw [lOf_length, hz, List.length_append] at hle
          refine (fault_vx s n (a + (encN c).length) (by omega) (by omega)).2 ⟨cs, fun z hz => hcs z (by simp [hz]), ?_⟩
          rw [← List.drop_drop, ← lof_from, e, List.drop_left]
theorem chars_iff (s : ByteArray) : (faultN xmlB s).1 = 0 ↔ VX (lOf s) := by
  have := fault_vx s (s.size + 1) 0 (by omega) (Nat.zero_le _)
  rwa [List.drop_zero] at this
end Go.Proofs.YtchfphakhmifmaaGreatDoor
