/- The document's number and Split. -/
import Derived.Test.YtnicdehbedcdpaaFmG
namespace Go.Proofs.Ytnicdehbedcdpaa
open Go.ChangeShapes Go.WideShapes Go.ChangeAt Go.RowKit

theorem lOf_get (s : ByteArray) (i : Nat) (h : i < s.size) : (lOf s)[i]? = some (ch s i) := by
  have hl : i < (lOf s).length := by rw [lOf_length]; exact h
  rw [ch_lOf]
  simp [List.getD, List.getElem?_eq_getElem hl]
set_option maxHeartbeats 1000000 in
theorem refnum_any (s : ByteArray) (a n : Nat) (h : a + n ≤ s.size) (h4 : n ≤ 4) (hs : s.size ≤ 9223372036854775000) (w : World) :
    Calls Try.prog 32 #[.string s, .int .i64 (a : Int), .int .i64 (n : Int)] w fun e w' => e = .returned (.int .i64 ((nm (((lOf s).drop a).take n) : Nat) : Int)) ∧ w' = w := by
  have hlen : ((lOf s).drop a).length = s.size - a := by rw [List.length_drop, lOf_length]
  have hget : ∀ k, k < n → ((lOf s).drop a)[k]? = some (ch s (a + k)) := fun k hk => by rw [List.getElem?_drop, lOf_get s _ (by omega)]
  have hbd : ∀ k, nm (((lOf s).drop a).take k) < 256 ^ k := fun k => nm_lt (fun x hx => lOf_lt s x (List.mem_of_mem_drop (List.mem_of_mem_take hx))) (by rw [List.length_take]; omega)
  generalize (lOf s).drop a = D at hlen hget hbd ⊢
  go_enter Try.func32, Try.ntmps32
  go_wp2_with fail
  go_loopw [7, 8] (fun v i wr => ∃ k : Nat, k ≤ n ∧ i = .int .i64 (k : Int) ∧ v = .int .i64 ((nm (D.take k) : Nat) : Int) ∧ wr = w) (fun _ i _ => n - (intOf i).toNat)
  case atStart => exact ⟨0, Nat.zero_le _, rfl, rfl, rfl⟩
  case round =>
    obtain ⟨k, hk, rfl, rfl, rfl⟩ := hrel
    by_cases hlt : k < n
    · have hx := hget k hlt
      have hst := nmF_take D k _ hx
      have hbk := hbd k
      have hxl := ch_lt s (a + k)
      have hp : 256 ^ k ≤ 256 ^ 3 := Nat.pow_le_pow_right (by decide) (by omega)
      have hlti : (k : Int) < (n : Int) := by omega
      have i1 : ∀ w : World, (Instr.index 9 (.string s) (.int .i64 ((a : Int) + (k : Int)))).run Try.prog w = .ok (.int .u8 (ch s (a + k) : Int)) w := fun w => idx (w := w) s (a + k) (by omega) .i64
      generalize nm (D.take k) = N at *
      generalize ch s (a + k) = x at *
      clear hget hbd hx
      go_wp2_with fail
      go_roundw
      case rel => exact ⟨k + 1, by omega, by go_num, by rw [hst]; simp, trivial⟩
      case measure => simp [intOf]; omega
    · obtain rfl : k = n := by omega
      have hlti : ¬ (k : Int) < (k : Int) := by omega
      go_wp2_with fail
      go_ret
      exact ⟨rfl, rfl⟩
theorem body_ext (s : ByteArray) (a M : Nat) : sOf ((((lOf s).drop a).take M).drop 6) = s.extract (a + 6) (a + M) := by
  rw [← sOf_lOf (s.extract (a + 6) (a + M)), lOf_extract, List.drop_take, List.drop_drop]
  congr 2
  omega
end Go.Proofs.Ytnicdehbedcdpaa
