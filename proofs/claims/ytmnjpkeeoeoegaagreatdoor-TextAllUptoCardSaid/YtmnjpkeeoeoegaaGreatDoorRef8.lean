/- The document's answer: Escape, Hex. -/
import Derived.Test.YtmnjpkeeoeoegaaGreatDoorRef6
import Derived.Test.YtmnjpkeeoeoegaaGreatDoorEsc
namespace Go.Proofs.YtmnjpkeeoeoegaaGreatDoor
open Go.ChangeShapes Go.WideShapes Go.ChangeAt Go.RowKit

theorem escC_lt (attr : Bool) (c : Nat) (hc : c < 256) : ∀ b ∈ escC attr c, b < 256 := by
  unfold escC
  split
  · exact lOf_lt _
  · split
    · exact lOf_lt _
    · intro b hb; simp at hb; omega
theorem entB_no (c : Nat) (h1 : ¬ c = 38) (h2 : ¬ c = 60) (h3 : ¬ c = 62) (h4 : ¬ c = 13) : entB c = ⟨#[]⟩ := by unfold entB; rw [if_neg h1, if_neg h2, if_neg h3, if_neg h4]
theorem attB_no (c : Nat) (h1 : ¬ c = 34) (h2 : ¬ c = 9) (h3 : ¬ c = 10) : attB c = ⟨#[]⟩ := by unfold attB; rw [if_neg h1, if_neg h2, if_neg h3]
theorem rescaped (c : Nat) (attr : Bool) (w : World) : Calls Tryz.prog 49 #[.int .u8 (c : Int), .bool attr] w fun e w' => e = .returned (.string (sOf (escC attr c))) ∧ Below w.heap.size w w' := by
  have cv := conv1
  have : c = 38 ∨ c = 60 ∨ c = 62 ∨ c = 13 ∨ (¬ c = 38 ∧ ¬ c = 60 ∧ ¬ c = 62 ∧ ¬ c = 13) := by omega
  rcases this with rfl | rfl | rfl | rfl | ⟨h1, h2, h3, h4⟩
  · have g : sOf (escC attr 38) = ⟨#[38, 97, 109, 112, 59]⟩ := by cases attr <;> rfl
    rw [g]
    go_enter Tryz.func49, Tryz.ntmps49
    go_wp2
    go_ret
    exact ⟨rfl, Below.refl _ _⟩
  · have g : sOf (escC attr 60) = ⟨#[38, 108, 116, 59]⟩ := by cases attr <;> rfl
    rw [g]
    go_enter Tryz.func49, Tryz.ntmps49
    go_wp2
    go_ret
    exact ⟨rfl, Below.refl _ _⟩
  · have g : sOf (escC attr 62) = ⟨#[38, 103, 116, 59]⟩ := by cases attr <;> rfl
    rw [g]
    go_enter Tryz.func49, Tryz.ntmps49
    go_wp2
    go_ret
    exact ⟨rfl, Below.refl _ _⟩
  · have g : sOf (escC attr 13) = ⟨#[38, 35, 49, 51, 59]⟩ := by cases attr <;> rfl
    rw [g]
    go_enter Tryz.func49, Tryz.ntmps49
    go_wp2
    go_ret
    exact ⟨rfl, Below.refl _ _⟩
  · have e1 : ((c : Int) == 38) = false := by simp; omega
    have e2 : ((c : Int) == 60) = false := by simp; omega
    have e3 : ((c : Int) == 62) = false := by simp; omega
    have e4 : ((c : Int) == 13) = false := by simp; omega
    have g0 : strOfNums [(c : Int)] = sOf [c] := strNums_eq _ _ rfl
    cases attr
    · have g : escC false c = [c] := by unfold escC; rw [entB_no c h1 h2 h3 h4, if_neg (by decide), if_neg (by simp)]
      rw [g]
      clear h1 h2 h3 h4 g
      go_enter Tryz.func49, Tryz.ntmps49
      go_wp2
      go_ret
      exact ⟨rsret (by first | rfl | exact g0), rbel _ _⟩
    · have : c = 34 ∨ c = 9 ∨ c = 10 ∨ (¬ c = 34 ∧ ¬ c = 9 ∧ ¬ c = 10) := by omega
      rcases this with rfl | rfl | rfl | ⟨h5, h6, h7⟩
      · have g : sOf (escC true 34) = ⟨#[38, 113, 117, 111, 116, 59]⟩ := rfl
        rw [g]
        go_enter Tryz.func49, Tryz.ntmps49
        go_wp2
        go_ret
        exact ⟨rfl, Below.refl _ _⟩
      · have g : sOf (escC true 9) = ⟨#[38, 35, 57, 59]⟩ := rfl
        rw [g]
        go_enter Tryz.func49, Tryz.ntmps49
        go_wp2
        go_ret
        exact ⟨rfl, Below.refl _ _⟩
      · have g : sOf (escC true 10) = ⟨#[38, 35, 49, 48, 59]⟩ := rfl
        rw [g]
        go_enter Tryz.func49, Tryz.ntmps49
        go_wp2
        go_ret
        exact ⟨rfl, Below.refl _ _⟩
      · have g : escC true c = [c] := by unfold escC; rw [entB_no c h1 h2 h3 h4, attB_no c h5 h6 h7, if_neg (by decide), if_neg (by decide)]
        rw [g]
        have e5 : ((c : Int) == 34) = false := by simp; omega
        have e6 : ((c : Int) == 9) = false := by simp; omega
        have e7 : ((c : Int) == 10) = false := by simp; omega
        clear h1 h2 h3 h4 h5 h6 h7 g
        go_enter Tryz.func49, Tryz.ntmps49
        go_wp2
        go_ret
        exact ⟨rsret (by first | rfl | exact g0), rbel _ _⟩
set_option maxHeartbeats 2000000 in
theorem rEscape (s : ByteArray) (attr : Bool) (w : World) (hs : s.size ≤ 17592186044416) : Calls Tryz.prog 23 #[.string s, .bool attr] w fun e w' => e = .returned (.string (sOf (escL attr (lOf s)))) ∧ Below w.heap.size w w' := by
  go_enter Tryz.func23, Tryz.ntmps23
  go_wp2
  go_loopw [5, 6] (fun v i wr => ∃ k : Nat, k ≤ s.size ∧ i = .int .i64 k ∧ Buf wr w.heap.size v (escL attr ((lOf s).take k)) ∧ Below w.heap.size w wr) (fun _ i _ => s.size - (intOf i).toNat)
  case atStart => exact ⟨0, Nat.zero_le _, rfl, Buf.nil _ _, Below.refl _ _⟩
  case round =>
    obtain ⟨k, hk, rfl, hB, HB⟩ := hrel
    by_cases hlt : k < s.size
    · have ix : ∀ w : World, (Instr.index 9 (.string s) (.int .i64 (k : Int))).run Tryz.prog w = .ok (.int .u8 (ch s k : Int)) w := fun w => idx (w := w) s k hlt .i64
      have hlen : (escL attr ((lOf s).take k)).length + (sOf (escC attr (ch s k))).size ≤ 140737488355328 := by
        have := escL_len attr ((lOf s).take k)
        have h2 := escC_len attr (ch s k)
        rw [List.length_take, lOf_length] at this
        rw [sOf_size]
        omega
      have fin : ∀ (v' : Value) (w' : World), Buf w' w.heap.size v' (escL attr ((lOf s).take k) ++ lOf (sOf (escC attr (ch s k)))) → Buf w' w.heap.size v' (escL attr ((lOf s).take (k + 1))) := fun v' w' h => by
        rw [take_succ_ch s k hlt]
        rw [lOf_sOf _ (escC_lt attr _ (ch_lt s k))] at h
        unfold escL at h ⊢
        rw [List.flatMap_append]
        simpa using h
      go_wp2_with (first | (go_at_call 49; refine (rescaped _ _ _).mono ?_; rintro e w1 ⟨rfl, hb1⟩; obtain ⟨v3, w3, hrun, hb3, hbel3⟩ := (hB.below hb1).str (sOf (escC attr (ch s k))) hlen (Nat.le_trans HB.size hb1.size)) | (at_builtin; refine (wpList_append_ex (by rfl) _ _ _ _ (by rfl) _ _ (by rfl) (by rfl) (fun a b => a = v3 ∧ b = w3) ⟨v3, w3, hrun, rfl, rfl⟩ ?_); rintro _ _ ⟨rfl, rfl⟩))
      go_roundw
      case rel => exact ⟨k + 1, by omega, by go_num, fin _ _ hb3, (bdt HB hb1).trans hbel3⟩
      case measure => simp [intOf]; omega
    · obtain rfl : k = s.size := by omega
      rw [take_all] at hB
      have hcv := hB.conv
      go_wp2
      go_ret
      exact ⟨rfl, HB⟩
end Go.Proofs.YtmnjpkeeoeoegaaGreatDoor
