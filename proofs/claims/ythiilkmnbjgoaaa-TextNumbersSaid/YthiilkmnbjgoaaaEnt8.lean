/- The contract of Unescape. -/
import Derived.Test.YthiilkmnbjgoaaaEnt7
import Derived.Test.YthiilkmnbjgoaaaQuo5
namespace Go.Proofs.Ythiilkmnbjgoaaa
open Go.ChangeShapes Go.WideShapes Go.ChangeAt Go.RowKit

/-- What an entity at a place means, and the place behind it. -/
def numAt (base : Nat) (s : ByteArray) (a k : Nat) : Option (List Nat × Nat) :=
  if endB s (a + k) = true ∧ 0 < (bodyS s (a + k)).size then
    match numS base (bodyS s (a + k)) with
    | some n => if xmlB (n : Int) = true then some (encN n, a + (k + (bodyS s (a + k)).size + 1)) else none
    | none => none
  else none
def entAt (s : ByteArray) (a : Nat) : Option (List Nat × Nat) :=
  if a + 2 < s.size ∧ ch s (a + 1) = 35 ∧ ch s (a + 2) = 120 then numAt 16 s a 3
  else if a + 1 < s.size ∧ ch s (a + 1) = 35 then numAt 10 s a 2
  else if endB s (a + 1) = true then
    match nameB (bodyS s (a + 1)).data.toList with
    | some b => some ([b], a + (1 + (bodyS s (a + 1)).size + 1))
    | none => none
  else none
theorem numAt_bd {base : Nat} {s : ByteArray} {a k : Nat} (hk : 2 ≤ k) (ha : a + k ≤ s.size) {M : List Nat} {b : Nat} (h : numAt base s a k = some (M, b)) : a < b ∧ b ≤ s.size ∧ M.length ≤ b - a := by
  unfold numAt at h
  split at h
  · rename_i hc
    split at h
    · rename_i n hn
      split at h
      · injection h with h
        injection h with h1 h2
        have := ((bodyS_size s (a + k)).2 ha).2 hc.1
        have hl := (encN_ne n).2
        rw [← h1, ← h2]
        omega
      · cases h
    · cases h
  · cases h
theorem entAt_bd {s : ByteArray} {a : Nat} (ha : a < s.size) {M : List Nat} {b : Nat} (h : entAt s a = some (M, b)) : a < b ∧ b ≤ s.size ∧ M.length ≤ b - a := by
  unfold entAt at h
  split at h
  · exact numAt_bd (by decide) (by omega) h
  · split at h
    · exact numAt_bd (by decide) (by omega) h
    · split at h
      · rename_i he
        split at h
        · injection h with h
          injection h with h1 h2
          have := ((bodyS_size s (a + 1)).2 (by omega)).2 he
          rw [← h1, ← h2]
          simp
          omega
        · cases h
      · cases h
/-- What is read from a place on: the text, the error, the place. -/
def uneF (s : ByteArray) : Nat → Nat → List Nat → List Nat × Nat × Nat
  | 0, _, acc => (acc, 0, 0)
  | n + 1, a, acc => if s.size ≤ a then (acc, 0, 0) else if ch s a = 38 then
      (match entAt s a with
      | some (M, b) => uneF s n b (acc ++ M)
      | none => ([], 22, a))
    else uneF s n (a + 1) (acc ++ [ch s a])
def uneN (s : ByteArray) : List Nat × Nat × Nat := uneF s (s.size + 1) 0 []
theorem uneF_more (s : ByteArray) : ∀ n a acc, s.size < n + a → ∀ m, s.size < m + a → uneF s n a acc = uneF s m a acc
  | 0, a, acc, hn, 0, hm => rfl
  | 0, a, acc, hn, m + 1, hm => by simp only [uneF]; rw [if_pos (by omega)]
  | n + 1, a, acc, hn, 0, hm => by simp only [uneF]; rw [if_pos (by omega)]
  | n + 1, a, acc, hn, m + 1, hm => by
    simp only [uneF]
    split
    · rfl
    · split
      · split
        · rename_i M b he
          have := entAt_bd (by omega) he
          exact uneF_more s n _ _ (by omega) m (by omega)
        · rfl
      · exact uneF_more s n _ _ (by omega) m (by omega)
theorem une_end (s : ByteArray) (a : Nat) (acc : List Nat) (h : s.size ≤ a) : uneF s (s.size + 1) a acc = (acc, 0, 0) := by rw [uneF, if_pos h]
theorem une_step (s : ByteArray) (a : Nat) (acc : List Nat) (ha : a < s.size) : uneF s (s.size + 1) a acc = if ch s a = 38 then
      (match entAt s a with
      | some (M, b) => uneF s (s.size + 1) b (acc ++ M)
      | none => ([], 22, a))
    else uneF s (s.size + 1) (a + 1) (acc ++ [ch s a]) := by
  rw [uneF, if_neg (by omega)]
  split
  · split
    · rename_i M b he
      have := entAt_bd ha he
      exact uneF_more s _ _ _ (by omega) _ (by omega)
    · rfl
  · exact uneF_more s _ _ _ (by omega) _ (by omega)
theorem fst_before (s : ByteArray) (c j : Nat) (h : j < fstN s c) : ¬ ch s j = c := by
  unfold fstN at h
  have h2 := List.not_of_lt_findIdx h
  have hl : j < (lOf s).length := Nat.lt_of_lt_of_le h List.findIdx_le_length
  rw [ch_lOf]
  simp [List.getD, hl]
  simpa using h2
theorem fst_at (s : ByteArray) (c : Nat) (h : fstN s c < s.size) : ch s (fstN s c) = c := by
  unfold fstN at h ⊢
  rw [← lOf_length] at h
  have := List.findIdx_getElem (w := h)
  rw [ch_lOf]
  simp [List.getD, h]
  simpa using this
theorem une_run (s : ByteArray) (a : Nat) (acc : List Nat) : ∀ k, a + k ≤ s.size → (∀ j, j < k → ¬ ch s (a + j) = 38) → uneF s (s.size + 1) a acc = uneF s (s.size + 1) (a + k) (acc ++ ((lOf s).drop a).take k)
  | 0, _, _ => by simp
  | k + 1, hk, hj => by
    rw [une_run s a acc k (by omega) (fun j h => hj j (by omega)), une_step s (a + k) _ (by omega), if_neg (hj k (by omega))]
    have : acc ++ ((lOf s).drop a).take k ++ [ch s (a + k)] = acc ++ ((lOf s).drop a).take (k + 1) := by
      rw [List.append_assoc]
      congr 1
      rw [List.take_add_one]
      congr 1
      have h2 : a + k < (lOf s).length := by rw [lOf_length]; omega
      rw [List.getElem?_drop, ch_lOf]
      simp [List.getD, h2]
    rw [this, Nat.add_assoc]
theorem une_plain (s : ByteArray) (a : Nat) (acc : List Nat) (ha : a ≤ s.size) : uneF s (s.size + 1) a acc = uneF s (s.size + 1) (a + fstN (s.extract a s.size) 38) (acc ++ lOf ((s.extract a s.size).extract 0 (fstN (s.extract a s.size) 38))) := by
  have h1 := fst_le (s.extract a s.size) 38
  have h2 : (s.extract a s.size).size = s.size - a := size_ext s _ _ (Nat.le_refl _)
  have e : lOf ((s.extract a s.size).extract 0 (fstN (s.extract a s.size) 38)) = ((lOf s).drop a).take (fstN (s.extract a s.size) 38) := by
    rw [lOf_extract, lOf_extract, List.drop_zero, Nat.sub_zero, List.take_take, Nat.min_eq_left (by omega)]
  rw [e]
  exact une_run s a acc (fstN (s.extract a s.size) 38) (by omega) (fun j hj => by
    have := fst_before _ _ j hj
    rwa [ch_ext s a s.size j (by omega)] at this)
theorem numAt_cases (base : Nat) (s : ByteArray) (a k : Nat) :
    (∃ n, endB s (a + k) = true ∧ 0 < (bodyS s (a + k)).size ∧ numS base (bodyS s (a + k)) = some n ∧ xmlB (n : Int) = true ∧ numAt base s a k = some (encN n, a + (k + (bodyS s (a + k)).size + 1))) ∨
    (numAt base s a k = none ∧ (endB s (a + k) = false ∨ (decide (0 < (bodyS s (a + k)).size) && (numS base (bodyS s (a + k))).isSome) = false ∨ xmlB (((numS base (bodyS s (a + k))).getD 0 : Nat) : Int) = false)) := by
  unfold numAt
  by_cases hc : endB s (a + k) = true ∧ 0 < (bodyS s (a + k)).size
  · rw [if_pos hc]
    cases hn : numS base (bodyS s (a + k)) with
    | none => exact Or.inr ⟨rfl, Or.inr (Or.inl (by simp))⟩
    | some n =>
      cases hx : xmlB (n : Int)
      · exact Or.inr ⟨by simp [hx], Or.inr (Or.inr hx)⟩
      · exact Or.inl ⟨n, hc.1, hc.2, rfl, hx, by simp [hx]⟩
  · rw [if_neg hc]
    refine Or.inr ⟨rfl, ?_⟩
    cases he : endB s (a + k)
    · exact Or.inl rfl
    · refine Or.inr (Or.inl ?_)
      have : ¬ 0 < (bodyS s (a + k)).size := fun h => hc ⟨he, h⟩
      rw [decide_eq_false this]
      rfl
set_option maxHeartbeats 4000000 in
theorem Unescape_any (s : ByteArray) (w : World) (hs : s.size ≤ 35184372088832) :
    Calls Try.prog 14 #[.string s] w fun e w' => e = .returned (.tuple #[.string (sOf (uneN s).1), .int .i64 ((uneN s).2.1 : Nat), .int .i64 ((uneN s).2.2 : Nat)]) ∧ Below w.heap.size w w' := by
  have hsz : s.size ≤ 140737488355000 := by omega
  have hsz2 : s.size ≤ 140737488355328 := by omega
  go_enter Try.func14, Try.ntmps14
  go_wp2_with (go_at_call 24; refine (newEntityReader_any s _).mono ?_; rintro e w0 ⟨g, m, rfl, hwm, hmg, N0, R0, B0⟩)
  have hwg : w.heap.size ≤ g := by omega
  go_loopw [6] (fun _ wr => ∃ a v L, a ≤ s.size ∧ L.length ≤ a ∧ Rd wr g s a v L (some (.map (some m))) ∧ Names wr m ∧ uneF s (s.size + 1) a L = uneN s ∧ Below w.heap.size w wr) (fun _ wr => s.size - plc wr g)
  case atStart => exact ⟨0, _, [], Nat.zero_le _, Nat.zero_le _, R0, N0, rfl, B0⟩
  case round =>
    obtain ⟨a, v, L, ha, hL, R, hN, hq, HB⟩ := hrel
    have c0 := R.h0
    have c1 := R.h1
    have c2 := R.h2
    have hpl := R.plc
    by_cases hlt : a < s.size
    · rw [une_step s a L hlt] at hq
      by_cases k0 : ch s a = 38
      · rw [if_pos k0] at hq
        by_cases k1 : a + 2 < s.size ∧ ch s (a + 1) = 35 ∧ ch s (a + 2) = 120
        · have hk : eitemK s a = 35 := by unfold eitemK; rw [if_neg (by simp [k0]), if_pos k1]
          have hen : entAt s a = numAt 16 s a 3 := by unfold entAt; rw [if_pos k1]
          rw [hen] at hq
          clear hen k0
          rcases numAt_cases 16 s a 3 with ⟨n, hn1, hn2, hn3, hn4, hn5⟩ | ⟨hn5, hno⟩
          · rw [hn5] at hq
            dsimp only at hq
            have hbd := numAt_bd (by decide) (by omega) hn5
            have hl4 := (encN_ne n).2
            have hn1 : Hid (endB s (a + 3) = true) := hn1
            have hn3 : Hid (numS 16 (bodyS s (a + 3)) = some n) := hn3
            clear hn5
            go_wp2
            go_quiet (fail)
            go_wp2_with (first | (go_at_call 25; refine (eitem_any g s a v L (some (.map (some m))) _ (R.drewN _) hlt).mono ?_; rintro e w1 ⟨rfl, n1, rfl⟩) | (go_at_call 35; refine (hexadecimal_yes g s a v L (some (.map (some m))) _ (R.drewN _) (by omega) hsz (by omega) n hn1.out hn2 hn3.out hn4).mono ?_; rintro r w2 ⟨rfl, ⟨v', hR⟩, hb2⟩))
            go_roundw
            case rel => exact ⟨a + (3 + (bodyS s (a + 3)).size + 1), v', L ++ encN n, by omega, by rw [List.length_append]; omega, hR, hN.below hmg ((bdN (Below.refl _ _) _).trans hb2), hq, HB.trans ((bdN (Below.refl _ _) _).trans (hb2.mono hwg))⟩
            case measure => rw [hR.plc, hpl]; omega
          · rw [hn5] at hq
            dsimp only at hq
            have hno : Hid (endB s (a + 3) = false ∨ (decide (0 < (bodyS s (a + 3)).size) && (numS 16 (bodyS s (a + 3))).isSome) = false ∨ xmlB (((numS 16 (bodyS s (a + 3))).getD 0 : Nat) : Int) = false) := hno
            clear hn5
            go_wp2
            go_quiet (fail)
            go_wp2_with (first | (go_at_call 25; refine (eitem_any g s a v L (some (.map (some m))) _ (R.drewN _) hlt).mono ?_; rintro e w1 ⟨rfl, n1, rfl⟩) | (go_at_call 35; refine (hexadecimal_no g s a v L (some (.map (some m))) _ (R.drewN _) (by omega) hsz2 hno.out).mono ?_; rintro r w2 ⟨rfl, n2, rfl⟩))
            have c1' : ∀ n, (wr.drewN n).cell? ⟨g, 1, none⟩ = some (.int .i64 (a : Int)) := fun n => c1
            go_quiet (fail)
            go_wp2
            rw [← hq]
            exact bodyPost_ret (v := .tuple #[.string ⟨#[]⟩, .int .i64 22, .int .i64 (a : Int)]) (by simp [results, Try.results14, go_sem]) rfl ⟨ret_tri rfl rfl rfl, bdN (bdN HB _) _⟩
        · by_cases k2 : a + 1 < s.size ∧ ch s (a + 1) = 35
          · have hk : eitemK s a = 36 := by unfold eitemK; rw [if_neg (by simp [k0]), if_neg k1, if_pos k2]
            have hen : entAt s a = numAt 10 s a 2 := by unfold entAt; rw [if_neg k1, if_pos k2]
            rw [hen] at hq
            clear hen k0
            rcases numAt_cases 10 s a 2 with ⟨n, hn1, hn2, hn3, hn4, hn5⟩ | ⟨hn5, hno⟩
            · rw [hn5] at hq
              dsimp only at hq
              have hbd := numAt_bd (by decide) (by omega) hn5
              have hl4 := (encN_ne n).2
              have hn1 : Hid (endB s (a + 2) = true) := hn1
              have hn3 : Hid (numS 10 (bodyS s (a + 2)) = some n) := hn3
              clear hn5
              go_wp2
              go_quiet (fail)
              go_wp2_with (first | (go_at_call 25; refine (eitem_any g s a v L (some (.map (some m))) _ (R.drewN _) hlt).mono ?_; rintro e w1 ⟨rfl, n1, rfl⟩) | (go_at_call 36; refine (decimal_yes g s a v L (some (.map (some m))) _ (R.drewN _) (by omega) hsz (by omega) n hn1.out hn2 hn3.out hn4).mono ?_; rintro r w2 ⟨rfl, ⟨v', hR⟩, hb2⟩))
              go_roundw
              case rel => exact ⟨a + (2 + (bodyS s (a + 2)).size + 1), v', L ++ encN n, by omega, by rw [List.length_append]; omega, hR, hN.below hmg ((bdN (Below.refl _ _) _).trans hb2), hq, HB.trans ((bdN (Below.refl _ _) _).trans (hb2.mono hwg))⟩
              case measure => rw [hR.plc, hpl]; omega
            · rw [hn5] at hq
              dsimp only at hq
              have hno : Hid (endB s (a + 2) = false ∨ (decide (0 < (bodyS s (a + 2)).size) && (numS 10 (bodyS s (a + 2))).isSome) = false ∨ xmlB (((numS 10 (bodyS s (a + 2))).getD 0 : Nat) : Int) = false) := hno
              clear hn5
              go_wp2
              go_quiet (fail)
              go_wp2_with (first | (go_at_call 25; refine (eitem_any g s a v L (some (.map (some m))) _ (R.drewN _) hlt).mono ?_; rintro e w1 ⟨rfl, n1, rfl⟩) | (go_at_call 36; refine (decimal_no g s a v L (some (.map (some m))) _ (R.drewN _) (by omega) hsz2 hno.out).mono ?_; rintro r w2 ⟨rfl, n2, rfl⟩))
              have c1' : ∀ n, (wr.drewN n).cell? ⟨g, 1, none⟩ = some (.int .i64 (a : Int)) := fun n => c1
              go_quiet (fail)
              go_wp2
              rw [← hq]
              exact bodyPost_ret (v := .tuple #[.string ⟨#[]⟩, .int .i64 22, .int .i64 (a : Int)]) (by simp [results, Try.results14, go_sem]) rfl ⟨ret_tri rfl rfl rfl, bdN (bdN HB _) _⟩
          · have hk : eitemK s a = 37 := by unfold eitemK; rw [if_neg (by simp [k0]), if_neg k1, if_neg k2]
            have hen : entAt s a = if endB s (a + 1) = true then (match nameB (bodyS s (a + 1)).data.toList with | some b => some ([b], a + (1 + (bodyS s (a + 1)).size + 1)) | none => none) else none := by unfold entAt; rw [if_neg k1, if_neg k2]
            have hcs : (∃ b, endB s (a + 1) = true ∧ nameB (bodyS s (a + 1)).data.toList = some b ∧ entAt s a = some ([b], a + (1 + (bodyS s (a + 1)).size + 1))) ∨ (entAt s a = none ∧ (endB s (a + 1) = false ∨ nameB (bodyS s (a + 1)).data.toList = none)) := by
              rw [hen]
              cases h1 : endB s (a + 1)
              · exact Or.inr ⟨rfl, Or.inl rfl⟩
              · cases h2 : nameB (bodyS s (a + 1)).data.toList with
                | none => exact Or.inr ⟨rfl, Or.inr rfl⟩
                | some b => exact Or.inl ⟨b, rfl, rfl, rfl⟩
            clear hen k0
            rcases hcs with ⟨b, hn1, hn2, hn5⟩ | ⟨hn5, hno⟩
            · rw [hn5] at hq
              dsimp only at hq
              have hbd := entAt_bd hlt hn5
              have hn1 : Hid (endB s (a + 1) = true) := hn1
              have hn2 : Hid (nameB (bodyS s (a + 1)).data.toList = some b) := hn2
              clear hn5
              go_wp2
              go_quiet (fail)
              go_wp2_with (first | (go_at_call 25; refine (eitem_any g s a v L (some (.map (some m))) _ (R.drewN _) hlt).mono ?_; rintro e w1 ⟨rfl, n1, rfl⟩) | (go_at_call 37; refine (named_yes g m s a v L _ (R.drewN _) (hN.below hmg (bdN (Below.refl _ _) _)) (by omega) hsz2 (by omega) b hn1.out hn2.out).mono ?_; rintro r w2 ⟨rfl, ⟨v', hR⟩, hb2⟩))
              go_roundw
              case rel => exact ⟨a + (1 + (bodyS s (a + 1)).size + 1), v', L ++ [b], by omega, by simp; omega, hR, hN.below hmg ((bdN (Below.refl _ _) _).trans hb2), hq, HB.trans ((bdN (Below.refl _ _) _).trans (hb2.mono hwg))⟩
              case measure => rw [hR.plc, hpl]; omega
            · rw [hn5] at hq
              dsimp only at hq
              have hno : Hid (endB s (a + 1) = false ∨ nameB (bodyS s (a + 1)).data.toList = none) := hno
              clear hn5
              go_wp2
              go_quiet (fail)
              go_wp2_with (first | (go_at_call 25; refine (eitem_any g s a v L (some (.map (some m))) _ (R.drewN _) hlt).mono ?_; rintro e w1 ⟨rfl, n1, rfl⟩) | (go_at_call 37; refine (named_no g m s a v L _ (R.drewN _) (hN.below hmg (bdN (Below.refl _ _) _)) (by omega) hsz2 hno.out).mono ?_; rintro r w2 ⟨rfl, n2, rfl⟩))
              have c1' : ∀ n, (wr.drewN n).cell? ⟨g, 1, none⟩ = some (.int .i64 (a : Int)) := fun n => c1
              go_quiet (fail)
              go_wp2
              rw [← hq]
              exact bodyPost_ret (v := .tuple #[.string ⟨#[]⟩, .int .i64 22, .int .i64 (a : Int)]) (by simp [results, Try.results14, go_sem]) rfl ⟨ret_tri rfl rfl rfl, bdN (bdN HB _) _⟩
      · rw [if_neg k0] at hq
        have hk : eitemK s a = 34 := by unfold eitemK; rw [if_pos k0]
        have hq : uneF s (s.size + 1) a L = uneN s := by rw [une_step s a L hlt, if_neg k0]; exact hq
        rw [une_plain s a L ha] at hq
        have h1 := fst_le (s.extract a s.size) 38
        have h2 : (s.extract a s.size).size = s.size - a := size_ext s _ _ (Nat.le_refl _)
        have h3 : 0 < fstN (s.extract a s.size) 38 := by
          rcases Nat.eq_zero_or_pos (fstN (s.extract a s.size) 38) with h | h
          · exfalso
            have := fst_at (s.extract a s.size) 38 (by omega)
            rw [h, ch_ext s a s.size 0 (by omega)] at this
            exact k0 this
          · exact h
        have h4 : (lOf ((s.extract a s.size).extract 0 (fstN (s.extract a s.size) 38))).length = fstN (s.extract a s.size) 38 := by rw [lOf_length, size_ext _ 0 _ h1]; omega
        rw [h2] at h1
        have hfin : Hid (0 < fstN (s.extract a s.size) 38 ∧ fstN (s.extract a s.size) 38 ≤ s.size - a ∧ (lOf ((s.extract a s.size).extract 0 (fstN (s.extract a s.size) 38))).length = fstN (s.extract a s.size) 38) := ⟨h3, h1, h4⟩
        clear h1 h2 h3 h4
        go_wp2
        go_quiet (fail)
        go_wp2_with (first | (go_at_call 25; refine (eitem_any g s a v L (some (.map (some m))) _ (R.drewN _) hlt).mono ?_; rintro e w1 ⟨rfl, n1, rfl⟩) | (go_at_call 34; refine (eplain_any g s a v L (some (.map (some m))) _ (R.drewN _) ha (by omega)).mono ?_; rintro r w2 ⟨rfl, ⟨v', hR⟩, hb2⟩))
        obtain ⟨f1, f2, f3⟩ := hfin.out
        go_roundw
        case rel => exact ⟨a + fstN (s.extract a s.size) 38, v', L ++ lOf ((s.extract a s.size).extract 0 (fstN (s.extract a s.size) 38)), by omega, by rw [List.length_append, f3]; omega, hR, hN.below hmg ((bdN (Below.refl _ _) _).trans hb2), hq, HB.trans ((bdN (Below.refl _ _) _).trans (hb2.mono hwg))⟩
        case measure => rw [hR.plc, hpl]; omega
    · rw [une_end s a L (by omega)] at hq
      have hcv : ∀ n, (convert 22 9 v).run Try.prog (wr.drewN n) = .ok (.string (sOf L)) (wr.drewN n) := fun n => (R.drewN n).buf.conv
      have c2' : ∀ n, (wr.drewN n).cell? ⟨g, 2, none⟩ = some v := fun n => c2
      go_wp2
      go_quiet (fail)
      go_wp2
      rw [← hq]
      exact bodyPost_ret (v := .tuple #[.string (sOf L), .int .i64 0, .int .i64 0]) (by simp [results, Try.results14, go_sem]) rfl ⟨ret_tri rfl rfl rfl, bdN HB _⟩
end Go.Proofs.Ythiilkmnbjgoaaa
