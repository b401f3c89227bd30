/- What is quoted is read; what is cut is refused; hex likewise. -/
import Derived.Test.YthiilkmnbjgoaaaQuo5
import Derived.Test.YthiilkmnbjgoaaaQuo7
namespace Go.Proofs.Ythiilkmnbjgoaaa

theorem ch_at {S : ByteArray} {P M R : List Nat} (h : lOf S = P ++ M ++ R) (i : Nat) (hi : i < M.length) : ch S (P.length + i) = M.getD i 0 := by
  rw [ch_lOf, h, List.append_assoc]
  simp [List.getD, List.getElem?_append, hi]
  rw [if_neg (by omega)]; rfl
theorem size_of {S : ByteArray} {L : List Nat} (h : lOf S = L) : S.size = L.length := by rw [← h, lOf_length]
theorem worth_hexc : ∀ d, d < 16 → worth (hexc d) = some d := by decide
theorem hexc_print : ∀ d, d < 16 → 32 ≤ hexc d ∧ hexc d ≤ 126 := by decide
theorem pair_at (S : ByteArray) (a x y d e : Nat) (h0 : a + 1 < S.size) (hx : ch S a = x) (hy : ch S (a + 1) = y) (wx : worth x = some d) (wy : worth y = some e) : pairN S a = (d * 16 + e, a + 2) := by
  unfold pairN
  rw [if_neg (by omega), hx, wx]
  dsimp only
  rw [if_neg (by omega), hy, wy]
/-- One item is read. -/
theorem unq_item (S : ByteArray) (P R : List Nat) (c : Nat) (acc : List Nat) (hc : c < 256) (h : lOf S = P ++ itemL c ++ R) : unqF S (S.size + 1) P.length acc = unqF S (S.size + 1) (P.length + (itemL c).length) (acc ++ [c]) := by
  have hz := size_of h
  simp only [List.length_append] at hz
  have hl := (itemL_len c).2
  have h0 := ch_at h 0 (by omega)
  rw [Nat.add_zero] at h0
  have two : ∀ m, itemL c = [92, m] → markF m = some c → ¬ m = 120 → unqF S (S.size + 1) P.length acc = unqF S (S.size + 1) (P.length + (itemL c).length) (acc ++ [c]) := by
    intro m e hm hx
    have h1 := ch_at h 1 (by rw [e]; simp)
    rw [e] at h0 h1 hz ⊢
    simp only [List.getD_cons_zero, List.getD_cons_succ] at h0 h1
    simp only [List.length_cons, List.length_nil] at hz ⊢
    rw [unq_step S _ acc (by omega), if_neg (by omega), if_neg (fun hh => hx (by rw [← h1]; exact hh.2.2)), if_pos h0, if_neg (by omega), h1, hm]
  by_cases k1 : c = 92
  · exact two 92 (by unfold itemL; rw [if_pos k1]) (by rw [k1]; rfl) (by decide)
  by_cases k2 : c = 34
  · exact two 34 (by unfold itemL; rw [if_neg k1, if_pos k2]) (by rw [k2]; rfl) (by decide)
  by_cases k3 : c = 10
  · exact two 110 (by unfold itemL; rw [if_neg k1, if_neg k2, if_pos k3]) (by rw [k3]; rfl) (by decide)
  by_cases k4 : c = 13
  · exact two 114 (by unfold itemL; rw [if_neg k1, if_neg k2, if_neg k3, if_pos k4]) (by rw [k4]; rfl) (by decide)
  by_cases k5 : c = 9
  · exact two 116 (by unfold itemL; rw [if_neg k1, if_neg k2, if_neg k3, if_neg k4, if_pos k5]) (by rw [k5]; rfl) (by decide)
  by_cases k6 : 32 ≤ c ∧ c ≤ 126
  · have e : itemL c = [c] := by unfold itemL; rw [if_neg k1, if_neg k2, if_neg k3, if_neg k4, if_neg k5, if_pos k6]
    rw [e] at h0 hz ⊢
    simp only [List.getD_cons_zero] at h0
    simp only [List.length_cons, List.length_nil] at hz ⊢
    have hp : plainB c = true := by unfold plainB; simp [k1, k2, k6.1]
    rw [unq_step S _ acc (by omega), h0, if_neg k2, if_neg (fun hh => k1 hh.2.1), if_neg k1, if_pos hp]
  · have e : itemL c = [92, 120, hexc (c / 16), hexc (c % 16)] := by unfold itemL; rw [if_neg k1, if_neg k2, if_neg k3, if_neg k4, if_neg k5, if_neg k6]
    have h1 := ch_at h 1 (by rw [e]; simp)
    have h2 := ch_at h 2 (by rw [e]; simp)
    have h3 := ch_at h 3 (by rw [e]; simp)
    rw [e] at h0 h1 h2 h3 hz ⊢
    simp only [List.getD_cons_zero, List.getD_cons_succ] at h0 h1 h2 h3
    simp only [List.length_cons, List.length_nil] at hz ⊢
    have hp := pair_at S (P.length + 2) _ _ _ _ (by omega) h2 h3 (worth_hexc _ (by omega)) (worth_hexc _ (by omega))
    have hcc : c / 16 * 16 + c % 16 = c := by omega
    rw [hcc] at hp
    rw [unq_step S _ acc (by omega), if_neg (by omega), if_pos ⟨by omega, h0, h1⟩, hp, if_neg (by show ¬ P.length + 2 + 2 < _; omega)]
theorem unq_items (S : ByteArray) : ∀ (l P R acc : List Nat), (∀ c ∈ l, c < 256) → lOf S = P ++ itemsL l ++ R → unqF S (S.size + 1) P.length acc = unqF S (S.size + 1) (P.length + (itemsL l).length) (acc ++ l)
  | [], P, R, acc, _, _ => by simp [itemsL]
  | c :: l, P, R, acc, hc, h => by
    have e : itemsL (c :: l) = itemL c ++ itemsL l := by unfold itemsL; rw [List.flatMap_cons]
    rw [e] at h ⊢
    rw [unq_item S P (itemsL l ++ R) c acc (hc c (by simp)) (by rw [h]; simp)]
    have := unq_items S l (P ++ itemL c) R (acc ++ [c]) (fun x hx => hc x (by simp [hx])) (by rw [h]; simp)
    rw [List.length_append] at this
    rw [this, List.length_append]
    simp [Nat.add_assoc]
/-- What is quoted is read, whatever stands behind. -/
theorem unq_quote (S : ByteArray) (l R : List Nat) (hl : ∀ c ∈ l, c < 256) (h : lOf S = quoteL l ++ R) : unqN S = (l, (quoteL l).length, 0) := by
  unfold quoteL at h ⊢
  have hz := size_of h
  simp only [List.length_append, List.length_cons, List.length_nil] at hz
  have h1 : lOf S = [] ++ [34] ++ (itemsL l ++ [34] ++ R) := by rw [h]; simp
  have h2 : lOf S = [34] ++ itemsL l ++ ([34] ++ R) := by rw [h]; simp
  have h3 : lOf S = ([34] ++ itemsL l) ++ [34] ++ R := h
  have c0 := ch_at h1 0 (by decide)
  have c3 := ch_at h3 0 (by decide)
  simp only [List.length_nil, Nat.zero_add, List.getD_cons_zero, Nat.add_zero, List.length_append, List.length_cons] at c0 c3
  have := unq_items S l [34] _ [] hl h2
  simp only [List.length_cons, List.length_nil, List.nil_append, Nat.zero_add] at this
  unfold unqN
  rw [if_neg (by omega), this, unq_step S _ _ (by omega), if_pos c3]
  simp
  omega
theorem items_print (l : List Nat) (hl : ∀ c ∈ l, c < 256) : ∀ b ∈ quoteL l, 32 ≤ b ∧ b ≤ 126 := by
  intro b hb
  unfold quoteL itemsL at hb
  simp only [List.mem_append, List.mem_singleton, List.mem_flatMap] at hb
  rcases hb with (rfl | ⟨c, hc, hb⟩) | rfl
  · decide
  · have := hl c hc
    unfold itemL at hb
    split at hb
    · simp at hb; omega
    · split at hb
      · simp at hb; omega
      · split at hb
        · simp at hb; omega
        · split at hb
          · simp at hb; omega
          · split at hb
            · simp at hb; omega
            · split at hb
              · simp at hb; omega
              · simp only [List.mem_cons, List.not_mem_nil, or_false] at hb
                rcases hb with rfl | rfl | rfl | rfl
                · decide
                · decide
                · exact hexc_print _ (by omega)
                · exact hexc_print _ (by omega)
  · decide
theorem items_lt (l : List Nat) (hl : ∀ c ∈ l, c < 256) : ∀ b ∈ quoteL l, b < 256 := fun b hb => by have := items_print l hl b hb; omega
/-- Cut within an item. -/
theorem unq_cut_item (S : ByteArray) (P : List Nat) (c k : Nat) (acc : List Nat) (hk : 0 < k) (hk2 : k < (itemL c).length) (hc : c < 256) (h : lOf S = P ++ (itemL c).take k ++ []) : unqF S (S.size + 1) P.length acc = ([], P.length + k, 23) := by
  have hz := size_of h
  simp only [List.length_append, List.length_take, List.length_nil] at hz
  have hz' : S.size = P.length + k := by omega
  have h0 := ch_at h 0 (by rw [List.length_take]; omega)
  rw [Nat.add_zero] at h0
  have two : ∀ m, itemL c = [92, m] → unqF S (S.size + 1) P.length acc = ([], P.length + k, 23) := by
    intro m e
    rw [e] at h0 hk2
    obtain rfl : k = 1 := by simp at hk2; omega
    simp only [List.take_succ_cons, List.take_zero, List.getD_cons_zero] at h0
    rw [unq_step S _ acc (by omega), if_neg (by omega), if_neg (fun hh => by omega), if_pos h0, if_pos (by omega)]
  by_cases k1 : c = 92
  · exact two 92 (by unfold itemL; rw [if_pos k1])
  by_cases k2 : c = 34
  · exact two 34 (by unfold itemL; rw [if_neg k1, if_pos k2])
  by_cases k3 : c = 10
  · exact two 110 (by unfold itemL; rw [if_neg k1, if_neg k2, if_pos k3])
  by_cases k4 : c = 13
  · exact two 114 (by unfold itemL; rw [if_neg k1, if_neg k2, if_neg k3, if_pos k4])
  by_cases k5 : c = 9
  · exact two 116 (by unfold itemL; rw [if_neg k1, if_neg k2, if_neg k3, if_neg k4, if_pos k5])
  by_cases k6 : 32 ≤ c ∧ c ≤ 126
  · have e : itemL c = [c] := by unfold itemL; rw [if_neg k1, if_neg k2, if_neg k3, if_neg k4, if_neg k5, if_pos k6]
    rw [e] at hk2
    simp at hk2
    omega
  · have e : itemL c = [92, 120, hexc (c / 16), hexc (c % 16)] := by unfold itemL; rw [if_neg k1, if_neg k2, if_neg k3, if_neg k4, if_neg k5, if_neg k6]
    rw [e] at hk2
    have : k = 1 ∨ k = 2 ∨ k = 3 := by simp at hk2; omega
    rcases this with rfl | rfl | rfl
    · rw [e] at h0
      simp only [List.take_succ_cons, List.take_zero, List.getD_cons_zero] at h0
      rw [unq_step S _ acc (by omega), if_neg (by omega), if_neg (fun hh => by omega), if_pos h0, if_pos (by omega)]
    · have h1 := ch_at h 1 (by rw [List.length_take, e]; simp)
      rw [e] at h0 h1
      simp only [List.take_succ_cons, List.take_zero, List.getD_cons_zero, List.getD_cons_succ] at h0 h1
      have hp : pairN S (P.length + 2) = (0, P.length + 2) := by unfold pairN; rw [if_pos (by omega)]
      rw [unq_step S _ acc (by omega), if_neg (by omega), if_pos ⟨by omega, h0, h1⟩, hp, if_pos (by show P.length + 2 < _; omega)]
    · have h1 := ch_at h 1 (by rw [List.length_take, e]; simp)
      have h2 := ch_at h 2 (by rw [List.length_take, e]; simp)
      rw [e] at h0 h1 h2
      simp only [List.take_succ_cons, List.take_zero, List.getD_cons_zero, List.getD_cons_succ] at h0 h1 h2
      have hp : pairN S (P.length + 2) = (c / 16, P.length + 3) := by
        unfold pairN
        rw [if_neg (by omega), h2, worth_hexc _ (by omega)]
        dsimp only
        rw [if_pos (by omega)]
      rw [unq_step S _ acc (by omega), if_neg (by omega), if_pos ⟨by omega, h0, h1⟩, hp, if_pos (by show P.length + 3 < _; omega)]
theorem unq_cut (S : ByteArray) : ∀ (l P acc : List Nat) (k : Nat), (∀ c ∈ l, c < 256) → k ≤ (itemsL l).length → lOf S = P ++ (itemsL l).take k → unqF S (S.size + 1) P.length acc = ([], P.length + k, 23)
  | l, P, acc, 0, _, _, h => by
    have hz := size_of h
    simp at hz
    rw [unqF, if_pos (by omega), Nat.add_zero]
  | [], P, acc, k + 1, _, hk, _ => by simp [itemsL] at hk
  | c :: l, P, acc, k + 1, hc, hk, h => by
    have e : itemsL (c :: l) = itemL c ++ itemsL l := by unfold itemsL; rw [List.flatMap_cons]
    rw [e] at h hk
    rw [List.length_append] at hk
    by_cases hlt : k + 1 < (itemL c).length
    · rw [List.take_append_of_le_length (by omega)] at h
      exact unq_cut_item S P c (k + 1) acc (by omega) hlt (hc c (by simp)) (by rw [h]; simp)
    · rw [List.take_append, List.take_of_length_le (by omega)] at h
      rw [unq_item S P ((itemsL l).take (k + 1 - (itemL c).length)) c acc (hc c (by simp)) (by rw [h]; simp)]
      have := unq_cut S l (P ++ itemL c) (acc ++ [c]) (k + 1 - (itemL c).length) (fun x hx => hc x (by simp [hx])) (by omega) (by rw [h]; simp)
      rw [List.length_append] at this
      rw [this]
      congr 2
      omega
theorem unq_quote_cut (S : ByteArray) (l : List Nat) (k : Nat) (hl : ∀ c ∈ l, c < 256) (hk : k < (quoteL l).length) (h : lOf S = (quoteL l).take k) : unqN S = ([], k, 23) := by
  unfold quoteL at h hk
  simp only [List.length_append, List.length_cons, List.length_nil] at hk
  have hz := size_of h
  rw [List.length_take] at hz
  simp only [List.length_append, List.length_cons, List.length_nil] at hz
  rcases Nat.eq_zero_or_pos k with rfl | hp
  · unfold unqN
    rw [if_pos (Or.inl (by omega))]
  · obtain ⟨j, rfl⟩ : ∃ j, k = j + 1 := ⟨k - 1, by omega⟩
    rw [List.append_assoc, List.singleton_append, List.take_succ_cons, List.take_append_of_le_length (by omega)] at h
    have h1 : lOf S = [] ++ [34] ++ (itemsL l).take j := by rw [h]; simp
    have c0 := ch_at h1 0 (by decide)
    simp only [List.length_nil, Nat.zero_add, List.getD_cons_zero] at c0
    have := unq_cut S l [34] [] j hl (by omega) (by rw [h]; simp)
    simp only [List.length_cons, List.length_nil, Nat.zero_add] at this
    unfold unqN
    rw [if_neg (by omega), this]
    congr 2
    omega
def hexG (f : Nat → Nat) (l : List Nat) : List Nat := l.flatMap fun c => [f (c / 16), f (c % 16)]
theorem hexG_length (f : Nat → Nat) (l : List Nat) : (hexG f l).length = 2 * l.length := by
  unfold hexG
  induction l with
  | nil => rfl
  | cons a r ih => simp only [List.flatMap_cons, List.length_append, List.length_cons, List.length_nil, ih]; omega
theorem unh_hex (f : Nat → Nat) (hf : ∀ d, d < 16 → worth (f d) = some d) (S : ByteArray) : ∀ (l P acc : List Nat), (∀ c ∈ l, c < 256) → lOf S = P ++ hexG f l → unhF S (S.size + 1) P.length acc = (acc ++ l, 0, 0)
  | [], P, acc, _, h => by
    have hz := size_of h
    simp [hexG] at hz
    rw [unh_end S _ _ (by omega), List.append_nil]
  | c :: l, P, acc, hc, h => by
    have e : hexG f (c :: l) = [f (c / 16), f (c % 16)] ++ hexG f l := by unfold hexG; rw [List.flatMap_cons]
    rw [e] at h
    have h' : lOf S = P ++ [f (c / 16), f (c % 16)] ++ hexG f l := by rw [h]; simp
    have hz := size_of h
    simp only [List.length_append, List.length_cons, List.length_nil] at hz
    have c0 := ch_at h' 0 (by simp)
    have c1 := ch_at h' 1 (by simp)
    simp only [List.getD_cons_zero, List.getD_cons_succ, Nat.add_zero] at c0 c1
    have hcc := hc c (by simp)
    have hp := pair_at S P.length _ _ _ _ (by omega) c0 c1 (hf _ (by omega)) (hf _ (by omega))
    rw [show c / 16 * 16 + c % 16 = c by omega] at hp
    rw [unh_step S _ acc (by omega), hp, if_neg (by show ¬ P.length + 2 < _; omega)]
    have := unh_hex f hf S l (P ++ [f (c / 16), f (c % 16)]) (acc ++ [c]) (fun x hx => hc x (by simp [hx])) h'
    rw [List.length_append] at this
    simp only [List.length_cons, List.length_nil, Nat.zero_add] at this
    rw [show P.length + (1 + 1) = P.length + 2 from rfl] at this
    rw [this]
    simp
theorem unh_odd (S : ByteArray) (hw : ∀ i, i < S.size → ∃ d, worth (ch S i) = some d) : ∀ (n a : Nat) (acc : List Nat), S.size = a + 2 * n + 1 → unhF S (S.size + 1) a acc = ([], 1, S.size)
  | 0, a, acc, h => by
    obtain ⟨d, hd⟩ := hw a (by omega)
    have hp : pairN S a = (d, a + 1) := by
      unfold pairN
      rw [if_neg (by omega), hd]
      dsimp only
      rw [if_pos (by omega)]
    rw [unh_step S a acc (by omega), hp, if_pos (by show a + 1 < a + 2; omega)]
    show ([], 1, a + 1) = _
    rw [show a + 1 = S.size by omega]
  | n + 1, a, acc, h => by
    obtain ⟨d, hd⟩ := hw a (by omega)
    obtain ⟨e, he⟩ := hw (a + 1) (by omega)
    have hp := pair_at S a _ _ _ _ (by omega) rfl rfl hd he
    rw [unh_step S a acc (by omega), hp, if_neg (by show ¬ a + 2 < a + 2; omega)]
    exact unh_odd S hw n (a + 2) _ (by omega)
/-- The great letter of a small one. -/
def upN (c : Nat) : Nat := if 97 ≤ c ∧ c ≤ 102 then c - 32 else c
theorem worth_up : ∀ d, d < 16 → worth (upN (hexc d)) = some d := by decide
theorem hexL_G (l : List Nat) : hexL l = hexG hexc l := rfl
theorem hexL_up (l : List Nat) : (hexL l).map upN = hexG (fun d => upN (hexc d)) l := by
  unfold hexL hexG
  rw [List.map_flatMap]
  rfl
theorem hexL_lt (l : List Nat) (hl : ∀ c ∈ l, c < 256) : ∀ b ∈ hexL l, b < 256 ∧ ∃ d, worth b = some d := by
  intro b hb
  unfold hexL at hb
  rw [List.mem_flatMap] at hb
  obtain ⟨c, hc, hb⟩ := hb
  have := hl c hc
  simp only [List.mem_cons, List.not_mem_nil, or_false] at hb
  rcases hb with rfl | rfl
  · have := hexc_print (c / 16) (by omega)
    exact ⟨by omega, _, worth_hexc _ (by omega)⟩
  · have := hexc_print (c % 16) (by omega)
    exact ⟨by omega, _, worth_hexc _ (by omega)⟩
theorem unh_hexL (s : ByteArray) : unhN (sOf (hexL (lOf s))) = (lOf s, 0, 0) := by
  have h : lOf (sOf (hexL (lOf s))) = [] ++ hexG hexc (lOf s) := by
    rw [lOf_sOf _ (fun b hb => (hexL_lt _ (lOf_lt s) b hb).1), hexL_G, List.nil_append]
  exact unh_hex hexc worth_hexc _ _ [] [] (lOf_lt s) h
theorem upN_lt (c : Nat) (h : c < 256) : upN c < 256 := by unfold upN; split <;> omega
theorem unh_up (s : ByteArray) : unhN (sOf ((hexL (lOf s)).map upN)) = (lOf s, 0, 0) := by
  have h : lOf (sOf ((hexL (lOf s)).map upN)) = [] ++ hexG (fun d => upN (hexc d)) (lOf s) := by
    rw [lOf_sOf _ (fun b hb => by
      obtain ⟨x, hx, rfl⟩ := List.mem_map.1 hb
      exact upN_lt x (hexL_lt _ (lOf_lt s) x hx).1), hexL_up, List.nil_append]
  exact unh_hex _ worth_up _ _ [] [] (lOf_lt s) h
theorem unh_less (s : ByteArray) (h0 : 0 < s.size) : unhN ((sOf (hexL (lOf s))).extract 1 (2 * s.size)) = ([], 1, 2 * s.size - 1) := by
  have hz : (sOf (hexL (lOf s))).size = 2 * s.size := by rw [sOf_size, hexL_length, lOf_length]
  have hz2 : ((sOf (hexL (lOf s))).extract 1 (2 * s.size)).size = 2 * s.size - 1 := size_ext _ 1 _ (by omega)
  have := unh_odd ((sOf (hexL (lOf s))).extract 1 (2 * s.size)) (fun i hi => by
    rw [hz2] at hi
    rw [ch_ext _ 1 _ i (by omega), ch_lOf, lOf_sOf _ (fun b hb => (hexL_lt _ (lOf_lt s) b hb).1)]
    have h2 : 1 + i < (hexL (lOf s)).length := by rw [hexL_length, lOf_length]; omega
    refine (hexL_lt _ (lOf_lt s) _ ?_).2
    simp [List.getD, h2]) (s.size - 1) 0 [] (by omega)
  rw [hz2] at this
  unfold unhN
  rw [hz2]
  exact this
theorem quote_facts (s b : ByteArray) : unqN (sOf (quoteL (lOf s)) ++ b) = (lOf s, (sOf (quoteL (lOf s))).size, 0) := by
  rw [sOf_size]
  exact unq_quote _ _ (lOf b) (lOf_lt s) (by rw [lOf_append, lOf_sOf _ (items_lt _ (lOf_lt s))])
theorem quote_cut (s : ByteArray) (k : Nat) (hk : k < (sOf (quoteL (lOf s))).size) : unqN ((sOf (quoteL (lOf s))).extract 0 k) = ([], k, 23) := by
  rw [sOf_size] at hk
  exact unq_quote_cut _ _ k (lOf_lt s) hk (by rw [lOf_extract, lOf_sOf _ (items_lt _ (lOf_lt s)), List.drop_zero, Nat.sub_zero])
theorem quote_print (s : ByteArray) (i : Nat) (h : i < (sOf (quoteL (lOf s))).size) : 32 ≤ ch (sOf (quoteL (lOf s))) i ∧ ch (sOf (quoteL (lOf s))) i ≤ 126 := by
  rw [sOf_size] at h
  rw [ch_lOf, lOf_sOf _ (items_lt _ (lOf_lt s))]
  refine items_print _ (lOf_lt s) _ ?_
  simp [List.getD, h]
theorem quote_size (s : ByteArray) : s.size + 2 ≤ (sOf (quoteL (lOf s))).size ∧ (sOf (quoteL (lOf s))).size ≤ 4 * s.size + 2 := by
  have := itemsL_len (lOf s)
  rw [lOf_length] at this
  rw [sOf_size]
  unfold quoteL
  simp only [List.length_append, List.length_cons, List.length_nil]
  omega
end Go.Proofs.Ythiilkmnbjgoaaa
