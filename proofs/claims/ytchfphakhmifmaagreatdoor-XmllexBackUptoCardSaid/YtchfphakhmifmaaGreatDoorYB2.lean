/- Unescape, Escape and names: characters of XML. -/
import Derived.Test.YtchfphakhmifmaaGreatDoorYB1
import Derived.Test.YtchfphakhmifmaaGreatDoorXEs
import Derived.Test.YtchfphakhmifmaaGreatDoorMB
namespace Go.Proofs.YtchfphakhmifmaaGreatDoor

theorem body_end {s : ByteArray} {q : Nat} (hq : q ≤ s.size) (h : endB s q = true) : q + (bodyS s q).size < s.size ∧ ch s (q + (bodyS s q).size) = 59 := by
  have hb := bodyS_size s q
  have hz : (s.extract q s.size).size = s.size - q := size_ext s q s.size (Nat.le_refl _)
  have hl := (hb.2 hq).2 h
  unfold endB at h
  have hf := fst_at (s.extract q s.size) 59 (of_decide_eq_true h)
  rw [ch_ext s q s.size _ (by rw [← hb.1]; omega), ← hb.1] at hf
  exact ⟨hl, hf⟩
theorem num_vx {base : Nat} {s : ByteArray} {a k : Nat} (ha : a + k ≤ s.size) (hk : 1 ≤ k) {M : List Nat} {b : Nat} (h : numAt base s a k = some (M, b)) : VX M ∧ M ≠ [] ∧ a + 1 < b ∧ ch s (b - 1) = 59 := by
  unfold numAt at h
  split at h
  · rename_i hc
    split at h
    · rename_i n hn
      split at h
      · rename_i hx
        injection h with h
        injection h with h1 h2
        have he := body_end ha hc.1
        refine ⟨by rw [← h1]; exact vx_enc hx, by rw [← h1]; exact (encN_ne n).1, by omega, ?_⟩
        rw [← h2, show a + (k + (bodyS s (a + k)).size + 1) - 1 = a + k + (bodyS s (a + k)).size by omega]
        exact he.2
      · cases h
    · cases h
  · cases h
theorem name_vx {l : List UInt8} {b : Nat} (h : nameB l = some b) : b < 128 ∧ xmlB (b : Int) = true := by
  unfold nameB at h
  repeat (split at h; · injection h with h; rw [← h]; decide)
  cases h
theorem ent_vx {s : ByteArray} {a : Nat} (ha : a < s.size) {M : List Nat} {b : Nat} (h : entAt s a = some (M, b)) : VX M ∧ M ≠ [] ∧ a + 1 < b ∧ ch s (b - 1) = 59 := by
  unfold entAt at h
  split at h
  · exact num_vx (by omega) (by decide) h
  · split at h
    · exact num_vx (by omega) (by decide) h
    · split at h
      · rename_i he
        split at h
        · rename_i c hc
          injection h with h
          injection h with h1 h2
          have hn := name_vx hc
          have hb := body_end (by omega) he
          refine ⟨by rw [← h1]; exact vx_one hn.1 hn.2, by rw [← h1]; simp, by omega, ?_⟩
          rw [← h2, show a + (1 + (bodyS s (a + 1)).size + 1) - 1 = a + 1 + (bodyS s (a + 1)).size by omega]
          exact hb.2
        · cases h
      · cases h
/-- What Unescape makes of characters of XML: such, no more bytes than it was given, none only of none. -/
theorem une_vx (s : ByteArray) : ∀ (n a : Nat) (acc t : List Nat), s.size - a < n → a ≤ s.size → uneF s (s.size + 1) a acc = (t, 0, 0) → VX (acc ++ (lOf s).drop a) → VX t ∧ t.length ≤ acc.length + (s.size - a) ∧ acc.length ≤ t.length ∧ (a < s.size → acc.length < t.length)
  | 0, a, _, _, hn, _, _, _ => by omega
  | n + 1, a, acc, t, hn, ha, hu, hv => by
    by_cases h : s.size ≤ a
    · rw [une_end s a acc h] at hu
      injection hu with hu
      rw [List.drop_eq_nil_of_le (by rw [lOf_length]; exact h), List.append_nil] at hv
      rw [← hu]
      exact ⟨hv, by omega, Nat.le_refl _, fun hh => by omega⟩
    · rw [une_step s a acc (by omega)] at hu
      have hc := lof_cons s a (by omega)
      split at hu
      · rename_i h38
        split at hu
        · rename_i M b he
          have hbd := entAt_bd (by omega) he
          obtain ⟨hM, hne, hb1, h59⟩ := ent_vx (by omega) he
          rw [hc, h38] at hv
          obtain ⟨v1, _, v2⟩ := vx_split hv (by decide)
          have hc2 := lof_cons s (b - 1) (by omega)
          rw [show b - 1 + 1 = b by omega, h59] at hc2
          have e : (lOf s).drop (a + 1) = ((lOf s).drop (a + 1)).take (b - 1 - (a + 1)) ++ 59 :: (lOf s).drop b := by
            conv => lhs; rw [← List.take_append_drop (b - 1 - (a + 1)) ((lOf s).drop (a + 1))]
            rw [List.drop_drop, show a + 1 + (b - 1 - (a + 1)) = b - 1 by omega, hc2]
          rw [e] at v2
          obtain ⟨_, _, v3⟩ := vx_split v2 (by decide)
          have ih := une_vx s n b (acc ++ M) t (by omega) (by omega) hu (by rw [List.append_assoc]; exact vx_app v1 (vx_app hM v3))
          rw [List.length_append] at ih
          have hl : 0 < M.length := List.length_pos_iff.2 hne
          exact ⟨ih.1, by omega, by omega, fun _ => by omega⟩
        · cases hu
      · have ih := une_vx s n (a + 1) (acc ++ [ch s a]) t (by omega) (by omega) hu (by rw [List.append_assoc]; rw [hc] at hv; exact hv)
        rw [List.length_append, List.length_singleton] at ih
        exact ⟨ih.1, by omega, by omega, fun _ => by omega⟩
theorem esc_low {attr : Bool} {c : Nat} (h : c < 128) (hx : xmlB (c : Int) = true) : VX (escC attr c) := by
  rcases escC_cases attr c with h1 | h1 | h1 | h1 | h1 | h1 | h1 | h1
  · subst h1; rw [escC_38]; exact vx_all (by decide)
  · subst h1; rw [escC_60]; exact vx_all (by decide)
  · subst h1; rw [escC_62]; exact vx_all (by decide)
  · subst h1; rw [escC_13]; exact vx_all (by decide)
  · obtain ⟨rfl, rfl⟩ := h1; rw [escC_34]; exact vx_all (by decide)
  · obtain ⟨rfl, rfl⟩ := h1; rw [escC_9]; exact vx_all (by decide)
  · obtain ⟨rfl, rfl⟩ := h1; rw [escC_10]; exact vx_all (by decide)
  · rw [escC_else attr c h1.1 h1.2]; exact vx_one h hx
theorem esc_same {attr : Bool} {l : List Nat} (h : ∀ c ∈ l, 128 ≤ c) : escL attr l = l := by
  induction l with
  | nil => rfl
  | cons c l ih =>
    have hc := h c (by simp)
    unfold escL at ih ⊢
    rw [List.flatMap_cons, ih (fun d hd => h d (by simp [hd])), escC_else attr c (by omega) (by omega)]
    rfl
theorem esc_vx {attr : Bool} {l : List Nat} (h : VX l) : VX (escL attr l) := by
  obtain ⟨cs, hcs, rfl⟩ := h
  induction cs with
  | nil => exact vx_nil
  | cons c cs ih =>
    have e : escL attr (List.flatMap encN (c :: cs)) = escL attr (encN c) ++ escL attr (List.flatMap encN cs) := by
      unfold escL; rw [List.flatMap_cons, List.flatMap_append]
    rw [e]
    refine vx_app ?_ (ih fun z hz => hcs z (by simp [hz]))
    have hx := hcs c (by simp)
    by_cases h8 : c < 128
    · rw [enc_low h8]
      have := esc_low (attr := attr) h8 hx
      unfold escL
      rwa [List.flatMap_singleton]
    · rw [esc_same (enc_high h8).2]
      exact vx_enc hx
/-- A name's bytes. -/
theorem name_ch {s : ByteArray} (h : xmlNameB s = true) : 0 < s.size ∧ ∀ i, i < s.size → nxml (ch s i) (decide (i = 0)) = true := of_decide_eq_true h
theorem nxml_bd {c : Nat} {f : Bool} (h : nxml c f = true) : 45 ≤ c ∧ c ≤ 122 ∧ c ≠ 47 ∧ c ≠ 60 ∧ c ≠ 61 ∧ c ≠ 62 ∧ c ≠ 63 ∧ xmlB (c : Int) = true := by
  have h2 : 45 ≤ c ∧ c ≤ 122 ∧ c ≠ 47 ∧ c ≠ 60 ∧ c ≠ 61 ∧ c ≠ 62 ∧ c ≠ 63 := by
    unfold nxml nlet ndig at h
    simp only [Bool.or_eq_true, Bool.and_eq_true, decide_eq_true_eq] at h
    omega
  refine ⟨h2.1, h2.2.1, h2.2.2.1, h2.2.2.2.1, h2.2.2.2.2.1, h2.2.2.2.2.2.1, h2.2.2.2.2.2.2, ?_⟩
  unfold xmlB
  simp only [Bool.or_eq_true, Bool.and_eq_true, decide_eq_true_eq]
  omega
theorem name_mem {s : ByteArray} (h : xmlNameB s = true) : ∀ c ∈ lOf s, 45 ≤ c ∧ c ≤ 122 ∧ c ≠ 47 ∧ c ≠ 60 ∧ c ≠ 61 ∧ c ≠ 62 ∧ c ≠ 63 ∧ xmlB (c : Int) = true := by
  intro c hc
  obtain ⟨i, hi, e⟩ := List.mem_iff_getElem.1 hc
  have hs : i < s.size := by rw [← lOf_length]; exact hi
  have := nxml_bd ((name_ch h).2 i hs)
  rw [ch_lOf] at this
  simp only [List.getD, List.getElem?_eq_getElem hi, Option.getD_some, e] at this
  exact this
theorem name_xml {s : ByteArray} (h : xmlNameB s = true) : VX (lOf s) := vx_all fun c hc => ⟨by have := name_mem h c hc; omega, (name_mem h c hc).2.2.2.2.2.2.2⟩
end Go.Proofs.YtchfphakhmifmaaGreatDoor
