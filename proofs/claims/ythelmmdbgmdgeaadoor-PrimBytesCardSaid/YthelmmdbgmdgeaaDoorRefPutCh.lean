/- The document's PutChars. -/
import Derived.Test.YthelmmdbgmdgeaaDoorPutChars
namespace Go.Proofs.YthelmmdbgmdgeaaDoor
open Go.ChangeShapes Go.WideShapes Go.ChangeAt Go.RowKit

theorem index_text (t : ByteArray) (m : Nat) (h : m < t.size) (w : World) : (Instr.index 9 (.string t) (.int .i64 (m : Int))).run Tryd.prog w = .ok (.int .u8 (chF t m)) w := by
  rw [run_index_string w 9 _ _ _ Tryd.underlying9, dif_pos (by omega)]
  simp only [Int.toNat_natCast]
  have h2 : m < t.data.toList.length := by rw [tl_len]; exact h
  have e : chF t m = ((t[m]'h).toNat : Int) := by
    simp only [chF, List.getD, List.getElem?_map, List.getElem?_eq_getElem h2, Option.map_some, Option.getD_some]
    rfl
  rw [e]
set_option maxHeartbeats 1000000 in
theorem refPutChars_ok (g len cap at' n : Nat) (t : ByteArray) (fi : Nat → Int) (w : World) (R : w.rowIs g 5 cap (fun j => .int .u8 (fi j))) (hat : at' + n ≤ len) (hlc : len ≤ cap) (hl : len ≤ 9223372036854775700) (ht : t.size ≤ n) :
    Calls Tryd.prog 28 #[.slice (some ⟨g, 0, none⟩) len cap, .int .i64 at', .int .i64 n, .string t] w fun e w' => e = .returned (.int .i64 0) ∧ Below g w w' ∧
      w'.rowIs g 5 cap (fun j => .int .u8 (if at' ≤ j ∧ j < at' + n then chF t (j - at') else fi j)) := by
  have hin : inB len at' n = true := inB_yes (by omega)
  go_enter Tryd.func28, Tryd.ntmps28
  go_wp2_with (go_at_call 41; refine (refLies_any _ _ _ _ (by omega) (by omega)).mono ?_; rintro e w1 ⟨rfl, rfl⟩)
  rename World => w0
  go_loopw [9] (fun i wr => ∃ m : Nat, m ≤ n ∧ i = .int .i64 m ∧ Below g w0 wr ∧ wr.rowIs g 5 cap (fun j => .int .u8 (if at' ≤ j ∧ j < at' + m then chF t (j - at') else fi j))) (fun i _ => n - (intOf i).toNat)
  case atStart => exact ⟨0, by omega, rfl, Below.refl _ _, R.congr fun j _ => by rw [if_neg (by omega)]⟩
  case round =>
    obtain ⟨m, hm, rfl, HB, HR⟩ := hrel
    by_cases hlt : m < n
    · have c1 := HR.cell (i := at' + m) (by omega)
      have f1 := HR.frozen (at' + m)
      have lt : (at' : Int) + (m : Int) < (len : Int) := by omega
      by_cases ht2 : m < t.size
      · have ix := index_text t m ht2
        go_wp2
        go_roundw
        case rel =>
          refine ⟨m + 1, by omega, by go_num, ?_, ?_⟩
          · first | exact (HB.setCell (Nat.le_refl _) _).setCell (Nat.le_refl _) _ | exact HB.setCell (Nat.le_refl _) _
          · refine ((HR.set (at' + m) (.int .u8 0)).set (at' + m) (.int .u8 (chF t m))).congr fun j _ => ?_
            by_cases e : j = at' + m
            · subst e; rw [if_pos rfl, if_pos (by omega), show at' + m - at' = m by omega]
            · rw [if_neg e, if_neg e]
              by_cases c : at' ≤ j ∧ j < at' + m
              · rw [if_pos c, if_pos (by omega)]
              · rw [if_neg c, if_neg (by omega)]
        case measure => simp [intOf]; omega
      · go_wp2
        go_roundw
        case rel =>
          refine ⟨m + 1, by omega, by go_num, HB.setCell (Nat.le_refl _) _, (HR.set (at' + m) (.int .u8 0)).congr fun j _ => ?_⟩
          by_cases e : j = at' + m
          · subst e; rw [if_pos rfl, if_pos (by omega), show at' + m - at' = m by omega, chF_out t m (by omega)]
          · rw [if_neg e]
            by_cases c : at' ≤ j ∧ j < at' + m
            · rw [if_pos c, if_pos (by omega)]
            · rw [if_neg c, if_neg (by omega)]
        case measure => simp [intOf]; omega
    · obtain rfl : m = n := by omega
      go_wp2
      go_ret
      exact ⟨rfl, HB, HR⟩
theorem refPutChars_no (a : Option Addr) (len cap : Nat) (at' n : Int) (t : ByteArray) (w : World) (hl : len ≤ 9223372036854775700) (hin : inB len at' n = false) :
    Calls Tryd.prog 28 #[.slice a len cap, .int .i64 at', .int .i64 n, .string t] w fun e w' => e = .returned (.int .i64 11) ∧ w' = w := by
  go_enter Tryd.func28, Tryd.ntmps28
  go_wp2_with (go_at_call 41; refine (refLies_any _ _ _ _ (by omega) (by omega)).mono ?_; rintro e w1 ⟨rfl, rfl⟩)
  go_ret
  exact ⟨rfl, rfl⟩
theorem refPutChars_long (a : Option Addr) (len cap : Nat) (at' n : Int) (t : ByteArray) (w : World) (hl : len ≤ 9223372036854775700) (hin : inB len at' n = true) (ht : n < t.size) :
    Calls Tryd.prog 28 #[.slice a len cap, .int .i64 at', .int .i64 n, .string t] w fun e w' => e = .returned (.int .i64 13) ∧ w' = w := by
  go_enter Tryd.func28, Tryd.ntmps28
  go_wp2_with (go_at_call 41; refine (refLies_any _ _ _ _ (by omega) (by omega)).mono ?_; rintro e w1 ⟨rfl, rfl⟩)
  go_ret
  exact ⟨rfl, rfl⟩
end Go.Proofs.YthelmmdbgmdgeaaDoor
