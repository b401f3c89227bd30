/- Unescape of Escape. -/
import Derived.Test.YtchfphakhmifmaaGreatDoorMB
import Derived.Test.YtchfphakhmifmaaGreatDoorEsc
namespace Go.Proofs.YtchfphakhmifmaaGreatDoor

theorem ch_at {S : ByteArray} {P M R : List Nat} (h : lOf S = P ++ M ++ R) (i : Nat) (hi : i < M.length) : ch S (P.length + i) = M.getD i 0 := by
  rw [ch_lOf, h, List.append_assoc]
  simp [List.getD, List.getElem?_append, hi]
  rw [if_neg (by omega)]; rfl
theorem size_of {S : ByteArray} {L : List Nat} (h : lOf S = L) : S.size = L.length := by rw [← h, lOf_length]

theorem find_at : ∀ (N R : List Nat), (∀ x ∈ N, ¬ x = 59) → (N ++ 59 :: R).findIdx (· == 59) = N.length
  | [], R, _ => by simp [List.findIdx_cons]
  | x :: N, R, h => by
    have hx : (x == 59) = false := by rw [beq_eq_false_iff_ne]; exact h x (by simp)
    rw [List.cons_append, List.findIdx_cons, hx, find_at N R (fun y hy => h y (by simp [hy]))]
    rfl
/-- The body of an entity. -/
theorem body_at {S : ByteArray} {Q N R : List Nat} (h : lOf S = Q ++ N ++ 59 :: R) (hN : ∀ x ∈ N, ¬ x = 59) : lOf (bodyS S Q.length) = N ∧ endB S Q.length = true := by
  have hz := size_of h
  simp only [List.length_append, List.length_cons] at hz
  have e : lOf (S.extract Q.length S.size) = N ++ 59 :: R := by
    rw [lOf_extract, h, List.append_assoc, List.drop_left, List.take_of_length_le (by simp; omega)]
  have f : fstN (S.extract Q.length S.size) 59 = N.length := by unfold fstN; rw [e]; exact find_at N R hN
  have z : (S.extract Q.length S.size).size = S.size - Q.length := size_ext S _ _ (Nat.le_refl _)
  constructor
  · unfold bodyS
    rw [lOf_extract, f, e, List.drop_zero, Nat.sub_zero, List.take_left]
  · unfold endB
    rw [f, z]
    simp
    omega
theorem ent_named {S : ByteArray} {P N R : List Nat} (h : lOf S = P ++ (38 :: N ++ [59]) ++ R) (hN : ∀ x ∈ N, ¬ x = 59) (h35 : ¬ N.getD 0 0 = 35) (hne : N ≠ []) (k : List UInt8) (hk : N = k.map UInt8.toNat) (b : Nat) (hb : nameB k = some b) : entAt S P.length = some ([b], P.length + (N.length + 2)) := by
  have h' : lOf S = (P ++ [38]) ++ N ++ 59 :: R := by rw [h]; simp
  obtain ⟨e1, e2⟩ := body_at h' hN
  rw [List.length_append] at e1 e2
  have c1 := ch_at (M := N) (P := P ++ [38]) (R := 59 :: R) h' 0 (by cases N; exact absurd rfl hne; simp)
  rw [List.length_append, Nat.add_zero] at c1
  have e1 : lOf (bodyS S (P.length + 1)) = N := e1
  have e2 : endB S (P.length + 1) = true := e2
  have c1 : ch S (P.length + 1) = N.getD 0 0 := c1
  have e3 : (bodyS S (P.length + 1)).data.toList = k := toNat_map_inj _ _ (by rw [← hk]; exact e1)
  have e4 : (bodyS S (P.length + 1)).size = N.length := by rw [← lOf_length, e1]
  unfold entAt
  rw [if_neg (fun hh => h35 (by rw [← c1]; exact hh.2.1)), if_neg (fun hh => h35 (by rw [← c1]; exact hh.2)), if_pos e2, e3, hb, e4]
  simp
  omega
theorem ent_dec {S : ByteArray} {P N R : List Nat} (h : lOf S = P ++ (38 :: 35 :: N ++ [59]) ++ R) (hN : ∀ x ∈ N, ¬ x = 59) (h120 : ¬ N.getD 0 0 = 120) (hne : N ≠ []) (n : Nat) (hn : numF 10 N 0 = some n) (hx : xmlB (n : Int) = true) : entAt S P.length = some (encN n, P.length + (N.length + 3)) := by
  have h' : lOf S = (P ++ [38, 35]) ++ N ++ 59 :: R := by rw [h]; simp
  have h2 : lOf S = P ++ [38, 35] ++ (N ++ 59 :: R) := by rw [h]; simp
  have hz := size_of h
  simp only [List.length_append, List.length_cons, List.length_nil] at hz
  obtain ⟨e1, e2⟩ := body_at h' hN
  rw [List.length_append] at e1 e2
  have hp : 0 < N.length := by cases N; exact absurd rfl hne; simp
  have c1 := ch_at h2 1 (by decide)
  have c2 := ch_at (M := N) (P := P ++ [38, 35]) (R := 59 :: R) h' 0 hp
  rw [List.length_append, Nat.add_zero] at c2
  have e1 : lOf (bodyS S (P.length + 2)) = N := e1
  have e2 : endB S (P.length + 2) = true := e2
  have c2 : ch S (P.length + 2) = N.getD 0 0 := c2
  have c1 : ch S (P.length + 1) = 35 := c1
  have e4 : (bodyS S (P.length + 2)).size = N.length := by rw [← lOf_length, e1]
  unfold entAt
  rw [if_neg (fun hh => h120 (by rw [← c2]; exact hh.2.2)), if_pos ⟨by omega, c1⟩]
  unfold numAt numS
  rw [if_pos ⟨e2, by omega⟩, e1, hn]
  dsimp only
  rw [if_pos hx, e4, show P.length + (2 + N.length + 1) = P.length + (N.length + 3) by omega]
theorem escC_38 (attr : Bool) : escC attr 38 = [38, 97, 109, 112, 59] := rfl
theorem escC_60 (attr : Bool) : escC attr 60 = [38, 108, 116, 59] := rfl
theorem escC_62 (attr : Bool) : escC attr 62 = [38, 103, 116, 59] := rfl
theorem escC_13 (attr : Bool) : escC attr 13 = [38, 35, 49, 51, 59] := rfl
theorem escC_34 : escC true 34 = [38, 113, 117, 111, 116, 59] := rfl
theorem escC_9 : escC true 9 = [38, 35, 57, 59] := rfl
theorem escC_10 : escC true 10 = [38, 35, 49, 48, 59] := rfl
theorem escC_else (attr : Bool) (c : Nat) (h : ¬ c = 38 ∧ ¬ c = 60 ∧ ¬ c = 62 ∧ ¬ c = 13) (h2 : attr = true → ¬ c = 34 ∧ ¬ c = 9 ∧ ¬ c = 10) : escC attr c = [c] := by
  have e1 : entB c = ⟨#[]⟩ := by unfold entB; rw [if_neg h.1, if_neg h.2.1, if_neg h.2.2.1, if_neg h.2.2.2]
  unfold escC
  rw [e1, if_neg (by decide), if_neg]
  rintro ⟨ht, hz⟩
  obtain ⟨a, b, d⟩ := h2 ht
  have e2 : attB c = ⟨#[]⟩ := by unfold attB; rw [if_neg a, if_neg b, if_neg d]
  rw [e2] at hz
  exact absurd hz (by decide)
/-- The eight ways in which a byte is written. -/
theorem escC_cases (attr : Bool) (c : Nat) : (c = 38) ∨ (c = 60) ∨ (c = 62) ∨ (c = 13) ∨ (attr = true ∧ c = 34) ∨ (attr = true ∧ c = 9) ∨ (attr = true ∧ c = 10) ∨ ((¬ c = 38 ∧ ¬ c = 60 ∧ ¬ c = 62 ∧ ¬ c = 13) ∧ (attr = true → ¬ c = 34 ∧ ¬ c = 9 ∧ ¬ c = 10)) := by
  cases attr
  · by_cases h : c = 38 ∨ c = 60 ∨ c = 62 ∨ c = 13
    · rcases h with h | h | h | h <;> simp [h]
    · exact Or.inr (Or.inr (Or.inr (Or.inr (Or.inr (Or.inr (Or.inr ⟨by omega, fun h => by cases h⟩))))))
  · by_cases h : c = 38 ∨ c = 60 ∨ c = 62 ∨ c = 13 ∨ c = 34 ∨ c = 9 ∨ c = 10
    · rcases h with h | h | h | h | h | h | h <;> simp [h]
    · exact Or.inr (Or.inr (Or.inr (Or.inr (Or.inr (Or.inr (Or.inr ⟨by omega, fun _ => by omega⟩))))))
theorem une_item (S : ByteArray) (P R : List Nat) (attr : Bool) (c : Nat) (acc : List Nat) (h : lOf S = P ++ escC attr c ++ R) : uneF S (S.size + 1) P.length acc = uneF S (S.size + 1) (P.length + (escC attr c).length) (acc ++ [c]) := by
  have hz := size_of h
  simp only [List.length_append] at hz
  have hl := (escC_len attr c).2
  have h0 := ch_at h 0 (by omega)
  rw [Nat.add_zero] at h0
  have ent : ∀ b, (escC attr c).getD 0 0 = 38 → entAt S P.length = some ([c], b) → b = P.length + (escC attr c).length → uneF S (S.size + 1) P.length acc = uneF S (S.size + 1) (P.length + (escC attr c).length) (acc ++ [c]) := by
    intro b e0 e1 e2
    rw [une_step S _ acc (by omega), if_pos (by rw [h0, e0]), e1]
    dsimp only
    rw [e2]
  rcases escC_cases attr c with rfl | rfl | rfl | rfl | ⟨rfl, rfl⟩ | ⟨rfl, rfl⟩ | ⟨rfl, rfl⟩ | ⟨k1, k2⟩
  · rw [escC_38] at h ent ⊢
    exact ent _ rfl (ent_named (N := [97, 109, 112]) h (by decide) (by decide) (by decide) kAmp rfl 38 rfl) rfl
  · rw [escC_60] at h ent ⊢
    exact ent _ rfl (ent_named (N := [108, 116]) h (by decide) (by decide) (by decide) kLt rfl 60 rfl) rfl
  · rw [escC_62] at h ent ⊢
    exact ent _ rfl (ent_named (N := [103, 116]) h (by decide) (by decide) (by decide) kGt rfl 62 rfl) rfl
  · rw [escC_13] at h ent ⊢
    exact ent _ rfl (ent_dec (N := [49, 51]) h (by decide) (by decide) (by decide) 13 rfl (by decide)) rfl
  · rw [escC_34] at h ent ⊢
    exact ent _ rfl (ent_named (N := [113, 117, 111, 116]) h (by decide) (by decide) (by decide) kQuot rfl 34 rfl) rfl
  · rw [escC_9] at h ent ⊢
    exact ent _ rfl (ent_dec (N := [57]) h (by decide) (by decide) (by decide) 9 rfl (by decide)) rfl
  · rw [escC_10] at h ent ⊢
    exact ent _ rfl (ent_dec (N := [49, 48]) h (by decide) (by decide) (by decide) 10 rfl (by decide)) rfl
  · have e := escC_else attr c k1 k2
    rw [e] at h0 hz ⊢
    simp only [List.getD_cons_zero] at h0
    simp only [List.length_cons, List.length_nil] at hz ⊢
    rw [une_step S _ acc (by omega), if_neg (by rw [h0]; exact k1.1), h0]
theorem une_items (S : ByteArray) (attr : Bool) : ∀ (l P acc : List Nat), lOf S = P ++ escL attr l → uneF S (S.size + 1) P.length acc = (acc ++ l, 0, 0)
  | [], P, acc, h => by
    have hz := size_of h
    simp [escL] at hz
    rw [une_end S _ _ (by omega), List.append_nil]
  | c :: l, P, acc, h => by
    have e : escL attr (c :: l) = escC attr c ++ escL attr l := by unfold escL; rw [List.flatMap_cons]
    rw [e] at h
    rw [une_item S P (escL attr l) attr c acc (by rw [h]; simp)]
    have := une_items S attr l (P ++ escC attr c) (acc ++ [c]) (by rw [h]; simp)
    rw [List.length_append] at this
    rw [this]
    simp
theorem esc_clean (attr : Bool) (l : List Nat) (hl : ∀ c ∈ l, c < 256) : ∀ b ∈ escL attr l, b < 256 ∧ ¬ b = 60 ∧ ¬ b = 62 ∧ ¬ b = 13 ∧ (attr = true → ¬ b = 34 ∧ ¬ b = 9 ∧ ¬ b = 10) := by
  intro b hb
  unfold escL at hb
  rw [List.mem_flatMap] at hb
  obtain ⟨c, hc, hb⟩ := hb
  have h256 := hl c hc
  rcases escC_cases attr c with rfl | rfl | rfl | rfl | ⟨rfl, rfl⟩ | ⟨rfl, rfl⟩ | ⟨rfl, rfl⟩ | ⟨k1, k2⟩
  · rw [escC_38] at hb; simp at hb; omega
  · rw [escC_60] at hb; simp at hb; omega
  · rw [escC_62] at hb; simp at hb; omega
  · rw [escC_13] at hb; simp at hb; omega
  · rw [escC_34] at hb; simp at hb; omega
  · rw [escC_9] at hb; simp at hb; omega
  · rw [escC_10] at hb; simp at hb; omega
  · rw [escC_else attr c k1 k2] at hb
    simp at hb
    subst hb
    exact ⟨h256, k1.2.1, k1.2.2.1, k1.2.2.2, k2⟩
theorem there_facts (s : ByteArray) (attr : Bool) : uneN (sOf (escL attr (lOf s))) = (lOf s, 0, 0) := by
  have h : lOf (sOf (escL attr (lOf s))) = [] ++ escL attr (lOf s) := by rw [lOf_sOf _ (fun b hb => (esc_clean attr _ (lOf_lt s) b hb).1), List.nil_append]
  exact une_items _ attr _ [] [] h
theorem there_clean (s : ByteArray) (attr : Bool) (i : Nat) (h : i < (sOf (escL attr (lOf s))).size) : ¬ ch (sOf (escL attr (lOf s))) i = 60 ∧ ¬ ch (sOf (escL attr (lOf s))) i = 62 ∧ ¬ ch (sOf (escL attr (lOf s))) i = 13 ∧ (attr = true → ¬ ch (sOf (escL attr (lOf s))) i = 34 ∧ ¬ ch (sOf (escL attr (lOf s))) i = 9 ∧ ¬ ch (sOf (escL attr (lOf s))) i = 10) := by
  rw [sOf_size] at h
  rw [ch_lOf, lOf_sOf _ (fun b hb => (esc_clean attr _ (lOf_lt s) b hb).1)]
  refine (esc_clean attr _ (lOf_lt s) _ ?_).2
  simp [List.getD, h]
end Go.Proofs.YtchfphakhmifmaaGreatDoor
