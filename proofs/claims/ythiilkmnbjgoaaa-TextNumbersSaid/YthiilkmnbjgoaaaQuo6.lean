/- The contracts of Quote and Unhex. -/
import Derived.Test.YthiilkmnbjgoaaaRd
namespace Go.Proofs.Ythiilkmnbjgoaaa
open Go.ChangeShapes Go.WideShapes Go.ChangeAt Go.RowKit

def itemL (c : Nat) : List Nat := if c = 92 then [92, 92] else if c = 34 then [92, 34] else if c = 10 then [92, 110] else if c = 13 then [92, 114] else if c = 9 then [92, 116] else if 32 ≤ c ∧ c ≤ 126 then [c] else [92, 120, hexc (c / 16), hexc (c % 16)]
theorem itemL_len (c : Nat) : (itemL c).length ≤ 4 ∧ 1 ≤ (itemL c).length := by
  unfold itemL
  split; exact ⟨by decide, by decide⟩
  split; exact ⟨by decide, by decide⟩
  split; exact ⟨by decide, by decide⟩
  split; exact ⟨by decide, by decide⟩
  split; exact ⟨by decide, by decide⟩
  split; exact ⟨by simp, by simp⟩
  exact ⟨by simp, by simp⟩
/-- Onto a buffer bytes that are written out. -/
theorem Buf.lit {w : World} {B : Nat} {v : Value} {L : List Nat} (h : Buf w B v L) (M : List Nat) (n c : Nat) (hn : M.length = n) (hl : L.length + M.length ≤ 140737488355328) (hB : B ≤ w.heap.size) :
    ∃ v' w', (∀ ty, (Builtin.append_ #[22, 22] ty #[v, .slice (some ⟨w.heap.size, 0, none⟩) n c]).run Try.prog (w.alloc (.cells (M.map cU).toArray 5)) = .ok v' w') ∧ (Buf w' B v' (L ++ M) ∧ Below B w w') := by
  subst hn
  obtain ⟨v', w', h1, h2, h3⟩ := Buf.append (w := w.alloc (.cells (M.map cU).toArray 5)) (tx := 22) (M := M) (h.below (bel1 w _)) (src_lit _ w.heap.size M.length c M rfl (heap_alloc_new w _)) hl (by simp; omega)
  exact ⟨v', w', h1, h2, ((Below.refl B w).alloc hB _).trans h3⟩
theorem appendItem_92 (B : Nat) (v : Value) (L : List Nat) (c : Nat) (w : World) (h : Buf w B v L) (hB : B ≤ w.heap.size) (hl : L.length + 4 ≤ 140737488355328) (hc : c = 92) :
    Calls Try.prog 19 #[v, .int .u8 (c : Int)] w fun e w' => ∃ v', e = .returned v' ∧ Buf w' B v' (L ++ [92, 92]) ∧ Below B w w' := by
  subst hc
  obtain ⟨v', w', hrun, hbuf, hbel⟩ := h.lit [92, 92] 2 2 rfl (by simp; omega) hB
  have hrun : ∀ ty, (Builtin.append_ #[22, 22] ty #[v, .slice (some ⟨w.heap.size, 0, none⟩) 2 2]).run Try.prog (w.alloc (.cells #[.int .u8 92, .int .u8 92] 5)) = .ok v' w' := hrun
  have HB : Hid (Below B w w') := hbel
  clear h hbel
  go_enter Try.func19, Try.ntmps19
  go_wp2_with (at_builtin; refine (wpList_append_ex (by rfl) _ _ _ _ (by rfl) _ _ (by rfl) (by rfl) (fun a b => a = v' ∧ b = w') ⟨v', w', hrun, rfl, rfl⟩ ?_); rintro _ _ ⟨rfl, rfl⟩)
  go_ret
  exact ⟨_, rfl, hbuf, HB⟩
theorem appendItem_34 (B : Nat) (v : Value) (L : List Nat) (c : Nat) (w : World) (h : Buf w B v L) (hB : B ≤ w.heap.size) (hl : L.length + 4 ≤ 140737488355328) (hc : c = 34) :
    Calls Try.prog 19 #[v, .int .u8 (c : Int)] w fun e w' => ∃ v', e = .returned v' ∧ Buf w' B v' (L ++ [92, 34]) ∧ Below B w w' := by
  subst hc
  obtain ⟨v', w', hrun, hbuf, hbel⟩ := h.lit [92, 34] 2 2 rfl (by simp; omega) hB
  have hrun : ∀ ty, (Builtin.append_ #[22, 22] ty #[v, .slice (some ⟨w.heap.size, 0, none⟩) 2 2]).run Try.prog (w.alloc (.cells #[.int .u8 92, .int .u8 34] 5)) = .ok v' w' := hrun
  have HB : Hid (Below B w w') := hbel
  clear h hbel
  go_enter Try.func19, Try.ntmps19
  go_wp2_with (at_builtin; refine (wpList_append_ex (by rfl) _ _ _ _ (by rfl) _ _ (by rfl) (by rfl) (fun a b => a = v' ∧ b = w') ⟨v', w', hrun, rfl, rfl⟩ ?_); rintro _ _ ⟨rfl, rfl⟩)
  go_ret
  exact ⟨_, rfl, hbuf, HB⟩
theorem appendItem_10 (B : Nat) (v : Value) (L : List Nat) (c : Nat) (w : World) (h : Buf w B v L) (hB : B ≤ w.heap.size) (hl : L.length + 4 ≤ 140737488355328) (hc : c = 10) :
    Calls Try.prog 19 #[v, .int .u8 (c : Int)] w fun e w' => ∃ v', e = .returned v' ∧ Buf w' B v' (L ++ [92, 110]) ∧ Below B w w' := by
  subst hc
  obtain ⟨v', w', hrun, hbuf, hbel⟩ := h.lit [92, 110] 2 2 rfl (by simp; omega) hB
  have hrun : ∀ ty, (Builtin.append_ #[22, 22] ty #[v, .slice (some ⟨w.heap.size, 0, none⟩) 2 2]).run Try.prog (w.alloc (.cells #[.int .u8 92, .int .u8 110] 5)) = .ok v' w' := hrun
  have HB : Hid (Below B w w') := hbel
  clear h hbel
  go_enter Try.func19, Try.ntmps19
  go_wp2_with (at_builtin; refine (wpList_append_ex (by rfl) _ _ _ _ (by rfl) _ _ (by rfl) (by rfl) (fun a b => a = v' ∧ b = w') ⟨v', w', hrun, rfl, rfl⟩ ?_); rintro _ _ ⟨rfl, rfl⟩)
  go_ret
  exact ⟨_, rfl, hbuf, HB⟩
theorem appendItem_13 (B : Nat) (v : Value) (L : List Nat) (c : Nat) (w : World) (h : Buf w B v L) (hB : B ≤ w.heap.size) (hl : L.length + 4 ≤ 140737488355328) (hc : c = 13) :
    Calls Try.prog 19 #[v, .int .u8 (c : Int)] w fun e w' => ∃ v', e = .returned v' ∧ Buf w' B v' (L ++ [92, 114]) ∧ Below B w w' := by
  subst hc
  obtain ⟨v', w', hrun, hbuf, hbel⟩ := h.lit [92, 114] 2 2 rfl (by simp; omega) hB
  have hrun : ∀ ty, (Builtin.append_ #[22, 22] ty #[v, .slice (some ⟨w.heap.size, 0, none⟩) 2 2]).run Try.prog (w.alloc (.cells #[.int .u8 92, .int .u8 114] 5)) = .ok v' w' := hrun
  have HB : Hid (Below B w w') := hbel
  clear h hbel
  go_enter Try.func19, Try.ntmps19
  go_wp2_with (at_builtin; refine (wpList_append_ex (by rfl) _ _ _ _ (by rfl) _ _ (by rfl) (by rfl) (fun a b => a = v' ∧ b = w') ⟨v', w', hrun, rfl, rfl⟩ ?_); rintro _ _ ⟨rfl, rfl⟩)
  go_ret
  exact ⟨_, rfl, hbuf, HB⟩
theorem appendItem_9 (B : Nat) (v : Value) (L : List Nat) (c : Nat) (w : World) (h : Buf w B v L) (hB : B ≤ w.heap.size) (hl : L.length + 4 ≤ 140737488355328) (hc : c = 9) :
    Calls Try.prog 19 #[v, .int .u8 (c : Int)] w fun e w' => ∃ v', e = .returned v' ∧ Buf w' B v' (L ++ [92, 116]) ∧ Below B w w' := by
  subst hc
  obtain ⟨v', w', hrun, hbuf, hbel⟩ := h.lit [92, 116] 2 2 rfl (by simp; omega) hB
  have hrun : ∀ ty, (Builtin.append_ #[22, 22] ty #[v, .slice (some ⟨w.heap.size, 0, none⟩) 2 2]).run Try.prog (w.alloc (.cells #[.int .u8 92, .int .u8 116] 5)) = .ok v' w' := hrun
  have HB : Hid (Below B w w') := hbel
  clear h hbel
  go_enter Try.func19, Try.ntmps19
  go_wp2_with (at_builtin; refine (wpList_append_ex (by rfl) _ _ _ _ (by rfl) _ _ (by rfl) (by rfl) (fun a b => a = v' ∧ b = w') ⟨v', w', hrun, rfl, rfl⟩ ?_); rintro _ _ ⟨rfl, rfl⟩)
  go_ret
  exact ⟨_, rfl, hbuf, HB⟩
theorem appendItem_plain (B : Nat) (v : Value) (L : List Nat) (c : Nat) (w : World) (h : Buf w B v L) (hB : B ≤ w.heap.size) (hl : L.length + 4 ≤ 140737488355328) (hp : 32 ≤ c ∧ c ≤ 126) (hn : ¬ c = 92 ∧ ¬ c = 34) :
    Calls Try.prog 19 #[v, .int .u8 (c : Int)] w fun e w' => ∃ v', e = .returned v' ∧ Buf w' B v' (L ++ [c]) ∧ Below B w w' := by
  have q92 : ((c : Int) == 92) = false := by simp; omega
  have q34 : ((c : Int) == 34) = false := by simp; omega
  have q10 : ((c : Int) == 10) = false := by simp; omega
  have q13 : ((c : Int) == 13) = false := by simp; omega
  have q9 : ((c : Int) == 9) = false := by simp; omega
  have d1 : decide (32 ≤ (c : Int)) = true := by simp; omega
  obtain ⟨v', w', hrun, hbuf, hbel⟩ := h.lit [c] 1 1 rfl (by simp; omega) hB
  have hrun : ∀ ty, (Builtin.append_ #[22, 22] ty #[v, .slice (some ⟨w.heap.size, 0, none⟩) 1 1]).run Try.prog (w.alloc (.cells #[.int .u8 (c : Int)] 5)) = .ok v' w' := hrun
  have HB : Hid (Below B w w') := hbel
  clear h hbel
  go_enter Try.func19, Try.ntmps19
  go_wp2_with (at_builtin; refine (wpList_append_ex (by rfl) _ _ _ _ (by rfl) _ _ (by rfl) (by rfl) (fun a b => a = v' ∧ b = w') ⟨v', w', hrun, rfl, rfl⟩ ?_); rintro _ _ ⟨rfl, rfl⟩)
  go_ret
  exact ⟨_, rfl, hbuf, HB⟩
theorem appendItem_low (B : Nat) (v : Value) (L : List Nat) (c : Nat) (w : World) (h : Buf w B v L) (hB : B ≤ w.heap.size) (hl : L.length + 4 ≤ 140737488355328) (hc : c < 256) (hp : c < 32) (hn : ¬ c = 10 ∧ ¬ c = 13 ∧ ¬ c = 9) :
    Calls Try.prog 19 #[v, .int .u8 (c : Int)] w fun e w' => ∃ v', e = .returned v' ∧ Buf w' B v' (L ++ [92, 120, hexc (c / 16), hexc (c % 16)]) ∧ Below B w w' := by
  have q92 : ((c : Int) == 92) = false := by simp; omega
  have q34 : ((c : Int) == 34) = false := by simp; omega
  have q10 : ((c : Int) == 10) = false := by simp; omega
  have q13 : ((c : Int) == 13) = false := by simp; omega
  have q9 : ((c : Int) == 9) = false := by simp; omega
  have d1 : decide (32 ≤ (c : Int)) = false := by simp; omega
  obtain ⟨v', w', hrun, hbuf, hbel⟩ := h.lit [92, 120] 2 2 rfl (by simp; omega) hB
  have hrun : ∀ ty, (Builtin.append_ #[22, 22] ty #[v, .slice (some ⟨w.heap.size, 0, none⟩) 2 2]).run Try.prog (w.alloc (.cells #[.int .u8 92, .int .u8 120] 5)) = .ok v' w' := hrun
  have HB : Hid (Below B w w') := hbel
  have hBw : B ≤ w'.heap.size := Nat.le_trans hB hbel.size
  clear h hbel
  go_enter Try.func19, Try.ntmps19
  go_wp2_with (first | (go_at_call 22; refine (appendHex_any B _ _ c _ hc hbuf hBw (by simp; omega)).mono ?_; rintro e w2 ⟨v2, rfl, hB2, hb2⟩) | (at_builtin; refine (wpList_append_ex (by rfl) _ _ _ _ (by rfl) _ _ (by rfl) (by rfl) (fun a b => a = v' ∧ b = w') ⟨v', w', hrun, rfl, rfl⟩ ?_); rintro _ _ ⟨rfl, rfl⟩))
  go_ret
  rw [List.append_assoc] at hB2
  exact ⟨_, rfl, hB2, HB.out.trans hb2⟩
theorem appendItem_high (B : Nat) (v : Value) (L : List Nat) (c : Nat) (w : World) (h : Buf w B v L) (hB : B ≤ w.heap.size) (hl : L.length + 4 ≤ 140737488355328) (hc : c < 256) (hp : 126 < c) (_ : ¬ c = 10 ∧ ¬ c = 13 ∧ ¬ c = 9) :
    Calls Try.prog 19 #[v, .int .u8 (c : Int)] w fun e w' => ∃ v', e = .returned v' ∧ Buf w' B v' (L ++ [92, 120, hexc (c / 16), hexc (c % 16)]) ∧ Below B w w' := by
  have q92 : ((c : Int) == 92) = false := by simp; omega
  have q34 : ((c : Int) == 34) = false := by simp; omega
  have q10 : ((c : Int) == 10) = false := by simp; omega
  have q13 : ((c : Int) == 13) = false := by simp; omega
  have q9 : ((c : Int) == 9) = false := by simp; omega
  have d1 : decide (32 ≤ (c : Int)) = true := by simp; omega
  have d2 : decide ((c : Int) ≤ 126) = false := by simp; omega
  obtain ⟨v', w', hrun, hbuf, hbel⟩ := h.lit [92, 120] 2 2 rfl (by simp; omega) hB
  have hrun : ∀ ty, (Builtin.append_ #[22, 22] ty #[v, .slice (some ⟨w.heap.size, 0, none⟩) 2 2]).run Try.prog (w.alloc (.cells #[.int .u8 92, .int .u8 120] 5)) = .ok v' w' := hrun
  have HB : Hid (Below B w w') := hbel
  have hBw : B ≤ w'.heap.size := Nat.le_trans hB hbel.size
  clear h hbel
  go_enter Try.func19, Try.ntmps19
  go_wp2_with (first | (go_at_call 22; refine (appendHex_any B _ _ c _ hc hbuf hBw (by simp; omega)).mono ?_; rintro e w2 ⟨v2, rfl, hB2, hb2⟩) | (at_builtin; refine (wpList_append_ex (by rfl) _ _ _ _ (by rfl) _ _ (by rfl) (by rfl) (fun a b => a = v' ∧ b = w') ⟨v', w', hrun, rfl, rfl⟩ ?_); rintro _ _ ⟨rfl, rfl⟩))
  go_ret
  rw [List.append_assoc] at hB2
  exact ⟨_, rfl, hB2, HB.out.trans hb2⟩
theorem appendItem_any (B : Nat) (v : Value) (L : List Nat) (c : Nat) (w : World) (h : Buf w B v L) (hB : B ≤ w.heap.size) (hl : L.length + 4 ≤ 140737488355328) (hc : c < 256) :
    Calls Try.prog 19 #[v, .int .u8 (c : Int)] w fun e w' => ∃ v', e = .returned v' ∧ Buf w' B v' (L ++ itemL c) ∧ Below B w w' := by
  unfold itemL
  by_cases h1 : c = 92
  · rw [if_pos h1]; exact appendItem_92 B v L c w h hB hl h1
  · rw [if_neg h1]
    by_cases h2 : c = 34
    · rw [if_pos h2]; exact appendItem_34 B v L c w h hB hl h2
    · rw [if_neg h2]
      by_cases h3 : c = 10
      · rw [if_pos h3]; exact appendItem_10 B v L c w h hB hl h3
      · rw [if_neg h3]
        by_cases h4 : c = 13
        · rw [if_pos h4]; exact appendItem_13 B v L c w h hB hl h4
        · rw [if_neg h4]
          by_cases h5 : c = 9
          · rw [if_pos h5]; exact appendItem_9 B v L c w h hB hl h5
          · rw [if_neg h5]
            by_cases h6 : 32 ≤ c ∧ c ≤ 126
            · rw [if_pos h6]; exact appendItem_plain B v L c w h hB hl h6 ⟨h1, h2⟩
            · rw [if_neg h6]
              by_cases h7 : c < 32
              · exact appendItem_low B v L c w h hB hl hc h7 ⟨h3, h4, h5⟩
              · exact appendItem_high B v L c w h hB hl hc (by omega) ⟨h3, h4, h5⟩
def itemsL (l : List Nat) : List Nat := l.flatMap itemL
theorem itemsL_len (l : List Nat) : (itemsL l).length ≤ 4 * l.length ∧ l.length ≤ (itemsL l).length := by
  unfold itemsL
  induction l with
  | nil => exact ⟨Nat.le_refl _, Nat.le_refl _⟩
  | cons a r ih =>
    have := itemL_len a
    rw [List.flatMap_cons, List.length_append, List.length_cons]
    omega
def quoteL (l : List Nat) : List Nat := ([34] ++ itemsL l) ++ [34]
set_option maxHeartbeats 1000000 in
theorem Quote_any (s : ByteArray) (w : World) (hs : s.size ≤ 17592186044416) : Calls Try.prog 10 #[.string s] w fun e w' => e = .returned (.string (sOf (quoteL (lOf s)))) ∧ Below w.heap.size w w' := by
  obtain ⟨wm, hmk, hbm, hbel⟩ := make_buf w (s.size + 2) ((s.size : Int) + 2) (by simp) (by omega)
  obtain ⟨v1, w1, hrun, hb1, hbel1⟩ := hbm.lit [34] 1 1 rfl (by simp) hbel.size
  have hrun : ∀ ty, (Builtin.append_ #[22, 22] ty #[.slice (some ⟨w.heap.size, 0, none⟩) 0 (s.size + 2), .slice (some ⟨wm.heap.size, 0, none⟩) 1 1]).run Try.prog (wm.alloc (.cells #[.int .u8 34] 5)) = .ok v1 w1 := hrun
  have HB1 := hbel.trans hbel1
  clear hbm
  go_enter Try.func10, Try.ntmps10
  go_wp2_with (at_builtin; refine (wpList_append_ex (by rfl) _ _ _ _ (by rfl) _ _ (by rfl) (by rfl) (fun a b => a = v1 ∧ b = w1) ⟨v1, w1, hrun, rfl, rfl⟩ ?_); rintro _ _ ⟨rfl, rfl⟩)
  go_loopw [3, 13] (fun v i wr => ∃ k : Nat, k ≤ s.size ∧ i = .int .i64 k ∧ Buf wr w.heap.size v ([34] ++ itemsL ((lOf s).take k)) ∧ Below w.heap.size w wr) (fun _ i _ => s.size - (intOf i).toNat)
  case atStart => exact ⟨0, Nat.zero_le _, rfl, hb1, HB1⟩
  case round =>
    obtain ⟨k, hk, rfl, hB, HB⟩ := hrel
    by_cases hlt : k < s.size
    · have ix : ∀ w : World, (Instr.index 9 (.string s) (.int .i64 (k : Int))).run Try.prog w = .ok (.int .u8 (ch s k : Int)) w := fun w => idx (w := w) s k hlt .i64
      have hlen : ([34] ++ itemsL ((lOf s).take k)).length + 4 ≤ 140737488355328 := by
        have := (itemsL_len ((lOf s).take k)).1
        rw [List.length_take, lOf_length] at this
        simp
        omega
      go_wp2_with (go_at_call 19; refine (appendItem_any w.heap.size _ _ _ _ hB HB.size hlen (ch_lt s k)).mono ?_; rintro e w2 ⟨v2, rfl, hB2, hb2⟩)
      go_roundw
      case rel =>
        refine ⟨k + 1, by omega, by go_num, ?_, HB.trans hb2⟩
        rw [take_succ_ch s k hlt]
        unfold itemsL at hB2 ⊢
        rw [List.flatMap_append, ← List.append_assoc]
        simpa using hB2
      case measure => simp [intOf]; omega
    · obtain rfl : k = s.size := by omega
      rw [take_all] at hB
      obtain ⟨v3, w3, hrun3, hb3, hbel3⟩ := hB.lit [34] 1 1 rfl (by
        have := (itemsL_len (lOf s)).1
        rw [lOf_length] at this
        simp
        omega) HB.size
      have hrun3 : ∀ ty, (Builtin.append_ #[22, 22] ty #[u3, .slice (some ⟨wr.heap.size, 0, none⟩) 1 1]).run Try.prog (wr.alloc (.cells #[.int .u8 34] 5)) = .ok v3 w3 := hrun3
      have hcv := hb3.conv
      go_wp2_with (at_builtin; refine (wpList_append_ex (by rfl) _ _ _ _ (by rfl) _ _ (by rfl) (by rfl) (fun a b => a = v3 ∧ b = w3) ⟨v3, w3, hrun3, rfl, rfl⟩ ?_); rintro _ _ ⟨rfl, rfl⟩)
      go_ret
      exact ⟨rfl, HB.trans hbel3⟩
end Go.Proofs.Ythiilkmnbjgoaaa
