/- The contract of Unhex. -/
import Derived.Test.YthiilkmnbjgoaaaQuo6
import Derived.Test.YthiilkmnbjgoaaaQuo4
namespace Go.Proofs.Ythiilkmnbjgoaaa
open Go.ChangeShapes Go.WideShapes Go.ChangeAt Go.RowKit

/-- What is read from a place on: the bytes, the error, the place. -/
def unhF (s : ByteArray) : Nat → Nat → List Nat → List Nat × Nat × Nat
  | 0, _, acc => (acc, 0, 0)
  | n + 1, a, acc => if s.size ≤ a then (acc, 0, 0) else if (pairN s a).2 < a + 2 then ([], 1, (pairN s a).2) else unhF s n (a + 2) (acc ++ [(pairN s a).1])
def unhN (s : ByteArray) : List Nat × Nat × Nat := unhF s (s.size + 1) 0 []
theorem unhF_more (s : ByteArray) : ∀ n a acc, s.size < n + a → ∀ m, s.size < m + a → unhF s n a acc = unhF s m a acc
  | 0, a, acc, hn, 0, hm => rfl
  | 0, a, acc, hn, m + 1, hm => by simp only [unhF]; rw [if_pos (by omega)]
  | n + 1, a, acc, hn, 0, hm => by simp only [unhF]; rw [if_pos (by omega)]
  | n + 1, a, acc, hn, m + 1, hm => by
    simp only [unhF]
    split
    · rfl
    · split
      · rfl
      · exact unhF_more s n _ _ (by omega) m (by omega)
theorem unh_step (s : ByteArray) (a : Nat) (acc : List Nat) (ha : a < s.size) : unhF s (s.size + 1) a acc = if (pairN s a).2 < a + 2 then ([], 1, (pairN s a).2) else unhF s (s.size + 1) (a + 2) (acc ++ [(pairN s a).1]) := by
  rw [unhF, if_neg (by omega)]
  split
  · rfl
  · exact unhF_more s _ _ _ (by omega) _ (by omega)
theorem unh_end (s : ByteArray) (a : Nat) (acc : List Nat) (ha : s.size ≤ a) : unhF s (s.size + 1) a acc = (acc, 0, 0) := by rw [unhF, if_pos ha]
theorem ret_tri2 {a b : ByteArray} {c d e f : Int} (h1 : a = b) (h2 : c = d) (h3 : e = f) : Ending.returned (.tuple #[.string a, .int .i64 c, .int .i64 e]) = .returned (.tuple #[.string b, .int .i64 d, .int .i64 f]) := by rw [h1, h2, h3]
set_option maxHeartbeats 1000000 in
theorem Unhex_any (s : ByteArray) (w : World) (hs : s.size ≤ 70368744177664) : Calls Try.prog 13 #[.string s] w fun e w' => e = .returned (.tuple #[.string (sOf (unhN s).1), .int .i64 ((unhN s).2.1 : Nat), .int .i64 ((unhN s).2.2 : Nat)]) ∧ Below w.heap.size w w' := by
  obtain ⟨wm, hmk, hbm, hbel⟩ := make_buf w (s.size / 2) ((s.size : Int) / 2) (by simp) (by omega)
  go_enter Try.func13, Try.ntmps13
  go_wp2
  go_loopw [5, 6] (fun v i wr => ∃ k L, i = .int .i64 (k : Nat) ∧ k ≤ s.size + 1 ∧ L.length ≤ k ∧ Buf wr w.heap.size v L ∧ unhF s (s.size + 1) k L = unhN s ∧ Below w.heap.size w wr) (fun _ i _ => s.size + 2 - (intOf i).toNat)
  case atStart => exact ⟨0, [], rfl, Nat.zero_le _, Nat.zero_le _, hbm, rfl, hbel⟩
  case round =>
    obtain ⟨k, L, rfl, hk, hL, hB, hq, HB⟩ := hrel
    by_cases hlt : k < s.size
    · rw [unh_step s k L hlt] at hq
      have h2 := pairN_le2 s k
      have hin := pairN_le s k (by omega)
      by_cases hp : (pairN s k).2 < k + 2
      · rw [if_pos hp] at hq
        have d : decide (((pairN s k).2 : Int) < (k : Int) + 2) = true := by simp; omega
        go_wp2_with (go_at_call 23; refine (hexPair_any s k _ (by omega)).mono ?_; rintro e w1 ⟨rfl, hw1⟩; subst w1)
        rw [← hq]
        exact bodyPost_ret (v := .tuple #[.string ⟨#[]⟩, .int .i64 1, .int .i64 (((pairN s k).2 : Nat) : Int)]) (by simp [results, Try.results13, go_sem]) rfl ⟨ret_tri2 rfl rfl rfl, HB⟩
      · rw [if_neg hp] at hq
        have hp5 : Hid ((pairN s k).2 = k + 2) := (by show (pairN s k).2 = k + 2; omega)
        have d : decide (((pairN s k).2 : Int) < (k : Int) + 2) = false := by simp; omega
        have hk2 : k + 2 ≤ s.size := by have := hp5.out; omega
        obtain ⟨v3, w3, hrun3, hb3, hbel3⟩ := hB.lit [(pairN s k).1] 1 1 rfl (by simp; omega) HB.size
        have hrun3 : ∀ ty, (Builtin.append_ #[22, 22] ty #[u5, .slice (some ⟨wr.heap.size, 0, none⟩) 1 1]).run Try.prog (wr.alloc (.cells #[.int .u8 ((pairN s k).1 : Nat)] 5)) = .ok v3 w3 := hrun3
        clear h2 hin hp
        go_wp2_with (first | (go_at_call 23; refine (hexPair_any s k _ (by omega)).mono ?_; rintro e w1 ⟨rfl, hw1⟩; subst w1) | (at_builtin; refine (wpList_append_ex (by rfl) _ _ _ _ (by rfl) _ _ (by rfl) (by rfl) (fun a b => a = v3 ∧ b = w3) ⟨v3, w3, hrun3, rfl, rfl⟩ ?_); rintro _ _ ⟨rfl, rfl⟩))
        go_roundw
        case rel => exact ⟨k + 2, L ++ [(pairN s k).1], by go_num, by omega, by simp; omega, hb3, hq, HB.trans hbel3⟩
        case measure => simp [intOf]; omega
    · rw [unh_end s k L (by omega)] at hq
      have hcv := hB.conv
      go_wp2
      rw [← hq]
      exact bodyPost_ret (v := .tuple #[.string (sOf L), .int .i64 0, .int .i64 0]) (by simp [results, Try.results13, go_sem]) rfl ⟨ret_tri2 rfl rfl rfl, HB⟩
end Go.Proofs.Ythiilkmnbjgoaaa
