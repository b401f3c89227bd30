/- The document's answer: Symbol. -/
import Derived.Test.YtfikmlckcbnppaaDoorNam2
import Derived.Deep.DeepCutAuto
namespace Go.Proofs.YtfikmlckcbnppaaDoor
open Go.ChangeShapes Go.WideShapes Go.ChangeAt Go.RowKit
theorem rdigit (c : Nat) (w : World) : Calls Tryd.prog 31 #[.int .u8 (c : Int)] w fun e w' => e = .returned (.bool (ndig c)) ∧ w' = w := by
  unfold ndig
  by_cases h : 48 ≤ c
  · go_enter Tryd.func31, Tryd.ntmps31
    go_wp2
    go_ret
    exact ⟨nret (by simp [h]; omega), rfl⟩
  · have d : decide (48 ≤ (c : Int)) = false := by simp; omega
    go_enter Tryd.func31, Tryd.ntmps31
    go_wp2
    go_ret
    exact ⟨nret (by simp; omega), rfl⟩
theorem rletter (c : Nat) (w : World) : Calls Tryd.prog 30 #[.int .u8 (c : Int)] w fun e w' => e = .returned (.bool (nlet c)) ∧ w' = w := by
  have : (c < 65) ∨ (65 ≤ c ∧ c ≤ 90) ∨ (90 < c ∧ c < 97) ∨ (97 ≤ c ∧ c ≤ 122) ∨ 122 < c := by omega
  rcases this with h | h | h | h | h
  · have d1 : decide (65 ≤ (c : Int)) = false := by simp; omega
    have d3 : decide (97 ≤ (c : Int)) = false := by simp; omega
    have g : nlet c = false := by unfold nlet; simp; omega
    rw [g]
    go_enter Tryd.func30, Tryd.ntmps30
    go_wp2
    go_ret
    exact ⟨rfl, rfl⟩
  · have d1 : decide (65 ≤ (c : Int)) = true := by simp; omega
    have d2 : decide ((c : Int) ≤ 90) = true := by simp; omega
    have d3 : decide (97 ≤ (c : Int)) = false := by simp; omega
    have g : nlet c = true := by unfold nlet; simp; omega
    rw [g]
    go_enter Tryd.func30, Tryd.ntmps30
    go_wp2
    go_ret
    exact ⟨rfl, rfl⟩
  · have d1 : decide (65 ≤ (c : Int)) = true := by simp; omega
    have d2 : decide ((c : Int) ≤ 90) = false := by simp; omega
    have d3 : decide (97 ≤ (c : Int)) = false := by simp; omega
    have g : nlet c = false := by unfold nlet; simp; omega
    rw [g]
    go_enter Tryd.func30, Tryd.ntmps30
    go_wp2
    go_ret
    exact ⟨rfl, rfl⟩
  · have d3 : decide (97 ≤ (c : Int)) = true := by simp; omega
    have d4 : decide ((c : Int) ≤ 122) = true := by simp; omega
    have g : nlet c = true := by unfold nlet; simp; omega
    rw [g]
    go_enter Tryd.func30, Tryd.ntmps30
    go_wp2
    go_ret
    exact ⟨rfl, rfl⟩
  · have d1 : decide (65 ≤ (c : Int)) = true := by simp; omega
    have d2 : decide ((c : Int) ≤ 90) = false := by simp; omega
    have d3 : decide (97 ≤ (c : Int)) = true := by simp; omega
    have d4 : decide ((c : Int) ≤ 122) = false := by simp; omega
    have g : nlet c = false := by unfold nlet; simp; omega
    rw [g]
    go_enter Tryd.func30, Tryd.ntmps30
    go_wp2
    go_ret
    exact ⟨rfl, rfl⟩
def inSet (S : ByteArray) (c k : Nat) : Bool := (List.range k).any fun j => decide (ch S j = c)
theorem inSet_succ (S : ByteArray) (c k : Nat) : inSet S c (k + 1) = (inSet S c k || decide (ch S k = c)) := by
  unfold inSet
  rw [List.range_succ, List.any_append]
  simp
def madeC (F M : ByteArray) (i c : Nat) : Bool := (nlet c || (decide (0 < i) && ndig c)) || inSet (if i = 0 then F else M) c (if i = 0 then F else M).size
def madeB (s F M : ByteArray) : Bool := decide (0 < s.size ∧ ∀ i, i < s.size → madeC F M i (ch s i) = true)
theorem rb3 {a b : World} (h : Below a.heap.size a b) (n : Nat) : Below a.heap.size a (b.drewN n) := ⟨h.os, h.tape, h.output, h.size, h.block⟩
set_option maxHeartbeats 4000000 in
theorem rmade (s F M : ByteArray) (hs : s.size ≤ 9223372036854775806) (hF : F.size ≤ 100) (hM : M.size ≤ 100) (w : World) : Calls Tryd.prog 21 #[.string s, .string F, .string M] w fun e w' => e = .returned (.bool (madeB s F M)) ∧ Below w.heap.size w w' := by
  go_enter Tryd.func21, Tryd.ntmps21
  go_wp2_with fail
  go_loopw [7] (fun v wr => ∃ i : Nat, i ≤ s.size ∧ v = .int .i64 (i : Int) ∧ (∀ j, j < i → madeC F M j (ch s j) = true) ∧ Below w.heap.size w wr) (fun v _ => s.size - (intOf v).toNat)
  case atStart => exact ⟨0, Nat.zero_le _, rfl, fun j hj => absurd hj (Nat.not_lt_zero j), Below.refl _ _⟩
  case round =>
    obtain ⟨i, hi, rfl, hall, HB⟩ := hrel
    by_cases hlt : i < s.size
    · have d1 : decide ((i : Int) < (s.size : Int)) = true := by simp; omega
      have ix : ∀ w : World, (Instr.index 9 (.string s) (.int .i64 (i : Int))).run Tryd.prog w = .ok (.int .u8 (ch s i : Int)) w := fun w => nidx (w := w) s i hlt .i64
      by_cases hi0 : i = 0
      · subst hi0
        obtain ⟨c, hc⟩ : ∃ c, Go.RowKit.Hid (c = ch s 0) := ⟨_, rfl⟩
        have ix : ∀ w : World, (Instr.index 9 (.string s) (.int .i64 0)).run Tryd.prog w = .ok (.int .u8 (c : Int)) w := fun w => by rw [hc.out]; exact nidx (w := w) s 0 hlt .i64
        have d1 : decide (0 < (s.size : Int)) = true := by simp; omega
        obtain ⟨b0, hb0⟩ : ∃ b0, nlet c = b0 := ⟨_, rfl⟩
        have hX : Go.RowKit.Hid (madeC F M 0 c = (b0 || inSet F c F.size)) := by show _ = _; unfold madeC; simp [hb0]
        go_upto_region 7 with fail
        go_cut [8, 9] (fun s8 s9 wx => s8 = .string F ∧ s9 = .bool b0 ∧ wx = wr)
        case first =>
          cases hl : nlet c <;> rw [hl] at hb0
          all_goals
            have hb1 : Go.RowKit.Hid (_ = b0) := hb0
            clear hb0
            go_wp2_with (first | (go_at_call 30; refine (rletter _ _).mono ?_; rintro e w1 ⟨rfl, hw1⟩; subst w1) | (go_at_call 31; refine (rdigit _ _).mono ?_; rintro e w1 ⟨rfl, hw1⟩; subst w1))
            go_meet
            case rel => exact ⟨rfl, by rw [← hb1.out] <;> rfl, rfl⟩
        case rest =>
        obtain ⟨rfl, rfl, rfl⟩ := hcut
        rename World => wr
        go_wp2_with fail
        go_loopw [9, 10] (fun ok v w2 => ∃ k : Nat, k ≤ F.size ∧ v = .int .i64 (k : Int) ∧ ok = .bool (b0 || inSet F c k) ∧ Below w.heap.size w w2) (fun _ v _ => F.size - (intOf v).toNat)
        case atStart => exact ⟨0, Nat.zero_le _, rfl, by simp [inSet], HB⟩
        case round =>
          obtain ⟨k, hk, rfl, rfl, HB⟩ := hrel
          by_cases hkl : k < F.size
          · have d2 : decide ((k : Int) < (F.size : Int)) = true := by simp; omega
            have ix2 : ∀ w : World, (Instr.index 9 (.string F) (.int .i64 (k : Int))).run Tryd.prog w = .ok (.int .u8 (ch F k : Int)) w := fun w => nidx (w := w) F k hkl .i64
            have hsu := inSet_succ F c k
            by_cases hcc : ch F k = c
            · have ec : ((ch F k : Int) == (c : Int)) = true := by simp; omega
              have hv : Go.RowKit.Hid ((b0 || inSet F c (k + 1)) = true) := by show _ = _; rw [hsu, decide_eq_true hcc, Bool.or_true, Bool.or_true]
              clear hcc hsu
              go_wp2_with fail
              go_quiet (fail)
              go_wp2_with fail
              go_round
              case rel => exact ⟨k + 1, by omega, by go_num, by rw [hv.out], rb3 HB _⟩
              case measure => simp [intOf]; omega
            · have ec : ((ch F k : Int) == (c : Int)) = false := by simp; omega
              have hv : Go.RowKit.Hid ((b0 || inSet F c (k + 1)) = (b0 || inSet F c k)) := by show _ = _; rw [hsu, decide_eq_false hcc, Bool.or_false]
              clear hcc hsu
              go_wp2_with fail
              go_quiet (fail)
              go_wp2_with fail
              go_round
              case rel => exact ⟨k + 1, by omega, by go_num, by rw [hv.out], rb3 HB _⟩
              case measure => simp [intOf]; omega
          · obtain rfl : k = F.size := by omega
            have d2 : decide ((F.size : Int) < (F.size : Int)) = false := by simp
            have hX := hX.out
            generalize (b0 || inSet F c F.size) = bb at hX ⊢
            cases bb
            · have g : madeB s F M = false := by
                unfold madeB
                simp only [decide_eq_false_iff_not]
                rintro ⟨-, h⟩
                have := h 0 hlt
                rw [← hc.out, hX] at this
                cases this
              clear hX
              go_wp2_with fail
              go_ret
              first | exact ⟨rfl, HB⟩ | exact ⟨nret g.symm, HB⟩
            · have hX : Go.RowKit.Hid (_ = true) := hX
              go_wp2_with fail
              go_round
              case rel => exact ⟨1, by omega, by go_num, fun j hj => by
                by_cases h : j = 0
                · rw [h, ← hc.out]; exact hX.out
                · exact hall j (by omega), HB⟩
              case measure => simp [intOf]; omega
      · have e0 : ((i : Int) == 0) = false := by simp [hi0]
        have p0 : 0 < i := by omega
        obtain ⟨c, hc⟩ : ∃ c, Go.RowKit.Hid (c = ch s i) := ⟨_, rfl⟩
        rw [← hc.out] at ix
        obtain ⟨b0, hb0⟩ : ∃ b0, (nlet c || ndig c) = b0 := ⟨_, rfl⟩
        have hX : Go.RowKit.Hid (madeC F M i c = (b0 || inSet M c M.size)) := by show _ = _; unfold madeC; rw [if_neg hi0, ← hb0, decide_eq_true (show 0 < i by omega), Bool.true_and]
        clear hi0
        go_upto_region 7 with fail
        go_cut [8, 9] (fun s8 s9 wx => s8 = .string M ∧ s9 = .bool b0 ∧ wx = wr)
        case first =>
          cases hl : nlet c <;> cases hd : ndig c <;> rw [hl, hd] at hb0
          all_goals
            have hb1 : Go.RowKit.Hid (_ = b0) := hb0
            clear hb0
            go_wp2_with (first | (go_at_call 30; refine (rletter _ _).mono ?_; rintro e w1 ⟨rfl, hw1⟩; subst w1) | (go_at_call 31; refine (rdigit _ _).mono ?_; rintro e w1 ⟨rfl, hw1⟩; subst w1))
            go_meet
            case rel => exact ⟨rfl, by rw [← hb1.out] <;> rfl, rfl⟩
        case rest =>
        obtain ⟨rfl, rfl, rfl⟩ := hcut
        rename World => wr
        go_wp2_with fail
        go_loopw [9, 10] (fun ok v w2 => ∃ k : Nat, k ≤ M.size ∧ v = .int .i64 (k : Int) ∧ ok = .bool (b0 || inSet M c k) ∧ Below w.heap.size w w2) (fun _ v _ => M.size - (intOf v).toNat)
        case atStart => exact ⟨0, Nat.zero_le _, rfl, by simp [inSet], HB⟩
        case round =>
          obtain ⟨k, hk, rfl, rfl, HB⟩ := hrel
          by_cases hkl : k < M.size
          · have d2 : decide ((k : Int) < (M.size : Int)) = true := by simp; omega
            have ix2 : ∀ w : World, (Instr.index 9 (.string M) (.int .i64 (k : Int))).run Tryd.prog w = .ok (.int .u8 (ch M k : Int)) w := fun w => nidx (w := w) M k hkl .i64
            have hsu := inSet_succ M c k
            by_cases hcc : ch M k = c
            · have ec : ((ch M k : Int) == (c : Int)) = true := by simp; omega
              have hv : Go.RowKit.Hid ((b0 || inSet M c (k + 1)) = true) := by show _ = _; rw [hsu, decide_eq_true hcc, Bool.or_true, Bool.or_true]
              clear hcc hsu
              go_wp2_with fail
              go_quiet (fail)
              go_wp2_with fail
              go_round
              case rel => exact ⟨k + 1, by omega, by go_num, by rw [hv.out], rb3 HB _⟩
              case measure => simp [intOf]; omega
            · have ec : ((ch M k : Int) == (c : Int)) = false := by simp; omega
              have hv : Go.RowKit.Hid ((b0 || inSet M c (k + 1)) = (b0 || inSet M c k)) := by show _ = _; rw [hsu, decide_eq_false hcc, Bool.or_false]
              clear hcc hsu
              go_wp2_with fail
              go_quiet (fail)
              go_wp2_with fail
              go_round
              case rel => exact ⟨k + 1, by omega, by go_num, by rw [hv.out], rb3 HB _⟩
              case measure => simp [intOf]; omega
          · obtain rfl : k = M.size := by omega
            have d2 : decide ((M.size : Int) < (M.size : Int)) = false := by simp
            have hX := hX.out
            generalize (b0 || inSet M c M.size) = bb at hX ⊢
            cases bb
            · have g : madeB s F M = false := by
                unfold madeB
                simp only [decide_eq_false_iff_not]
                rintro ⟨-, h⟩
                have := h i hlt
                rw [← hc.out, hX] at this
                cases this
              clear hX
              go_wp2_with fail
              go_ret
              first | exact ⟨rfl, HB⟩ | exact ⟨nret g.symm, HB⟩
            · have hX : Go.RowKit.Hid (_ = true) := hX
              go_wp2_with fail
              go_round
              case rel => exact ⟨i + 1, by omega, by go_num, fun j hj => by
                by_cases h : j = i
                · rw [h, ← hc.out]; exact hX.out
                · exact hall j (by omega), HB⟩
              case measure => simp [intOf]; omega
    · obtain rfl : i = s.size := by omega
      have g : madeB s F M = !(s.toList == []) := by
        rw [nempty]
        unfold madeB
        by_cases h0 : s.size = 0
        · simp [h0]
        · simp only [h0, decide_false, Bool.not_false, decide_eq_true_eq]
          exact ⟨by omega, hall⟩
      clear hall
      have d2 : decide ((s.size : Int) < (s.size : Int)) = false := by simp
      have g : Go.RowKit.Hid (madeB s F M = !(s.toList == [])) := g
      go_wp2_with fail
      go_ret
      exact ⟨nret (by rw [g.out]; cases s.toList <;> rfl), HB⟩
abbrev yF : ByteArray := ⟨#[95]⟩
theorem inSet_yF (c : Nat) : inSet yF c yF.size = decide (95 = c) := by
  show (decide (95 = c) || false) = _
  rw [Bool.or_false]
theorem madeC_y (i c : Nat) : madeC yF yF i c = (nsym c && !(decide (i = 0) && ndig c && !nlet c && !decide (c = 95))) := by
  unfold madeC nsym
  simp only [ite_self]
  rw [inSet_yF]
  by_cases hi : i = 0
  · rw [hi]
    simp only [eq_comm (a := c)]
    cases nlet c <;> cases ndig c <;> cases decide (95 = c) <;> simp
  · rw [decide_eq_true (show 0 < i by omega), decide_eq_false hi]
    simp only [eq_comm (a := c)]
    cases nlet c <;> cases ndig c <;> cases decide (95 = c) <;> rfl
theorem dig_not (c : Nat) (h : ndig c = true) : nlet c = false ∧ decide (c = 95) = false := by
  unfold ndig at h
  simp only [Bool.and_eq_true, decide_eq_true_eq] at h
  unfold nlet
  constructor
  · simp; omega
  · simp; omega
theorem madeB_y (s : ByteArray) : (decide (s.size ≤ 64) && madeB s yF yF) = symbolB s := by
  unfold madeB symbolB
  rw [← Bool.decide_and]
  apply decide_eq_decide.2
  constructor
  · rintro ⟨h1, h2, h3⟩
    refine ⟨h2, h1, ?_, fun i hi => ?_⟩
    · have := h3 0 h2
      rw [madeC_y] at this
      cases hd : ndig (ch s 0)
      · rfl
      · obtain ⟨a, b⟩ := dig_not _ hd
        rw [hd, a, b] at this
        simp at this
    · have := h3 i hi
      rw [madeC_y, Bool.and_eq_true] at this
      exact this.1
  · rintro ⟨h1, h2, h3, h4⟩
    refine ⟨h2, h1, fun i hi => ?_⟩
    rw [madeC_y, h4 i hi]
    by_cases h0 : i = 0
    · rw [h0, h3]; simp
    · simp [h0]
theorem rSymbol (s : ByteArray) (hs : s.size ≤ 9223372036854775806) (w : World) : Calls Tryd.prog 14 #[.string s] w fun e w' => e = .returned (.bool (symbolB s)) ∧ Below w.heap.size w w' := by
  have hm := fun w => rmade s yF yF hs (by decide) (by decide) w
  have hy := madeB_y s
  by_cases h : s.size ≤ 64
  · have d : decide ((s.size : Int) ≤ 64) = true := by simp; omega
    rw [decide_eq_true h, Bool.true_and] at hy
    rw [hy] at hm
    clear hy
    go_enter Tryd.func14, Tryd.ntmps14
    go_wp2_with (go_at_call 21; refine (hm _).mono ?_; rintro e w1 ⟨rfl, hb⟩)
    go_ret
    exact ⟨rfl, hb⟩
  · have d : decide ((s.size : Int) ≤ 64) = false := by simp; omega
    rw [decide_eq_false h, Bool.false_and] at hy
    rw [← hy]
    clear hy hm h
    go_enter Tryd.func14, Tryd.ntmps14
    go_wp2
    go_ret
    exact ⟨rfl, Below.refl _ _⟩
end Go.Proofs.YtfikmlckcbnppaaDoor
