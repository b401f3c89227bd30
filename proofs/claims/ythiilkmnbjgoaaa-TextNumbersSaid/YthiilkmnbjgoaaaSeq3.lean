/- The contract of sequence. -/
import Derived.Test.YthiilkmnbjgoaaaSeq2
import Derived.Lib.ConvBytes
import Derived.Lib.AtoiErrMem
namespace Go.Proofs.Ythiilkmnbjgoaaa
open Go.ChangeShapes Go.WideShapes Go.ChangeAt Go.RowKit

theorem bcell {W w1 : World} (hb : Below W.heap.size W w1) : (∀ b o, b < W.heap.size → w1.cell? ⟨b, o, none⟩ = W.cell? ⟨b, o, none⟩) ∧ (∀ b o, b < W.heap.size → w1.frozen? ⟨b, o, none⟩ = W.frozen? ⟨b, o, none⟩) :=
  ⟨fun b o h => hb.cell (p := ⟨b, o, none⟩) h, fun b o h => hb.frozen (p := ⟨b, o, none⟩) h⟩
theorem ret_pair {k k' : IntKind} {a b c d : Int} (h : a = b) (h2 : c = d) : Ending.returned (.tuple #[.int k a, .int k' c]) = .returned (.tuple #[.int k b, .int k' d]) := by rw [h, h2]
set_option maxHeartbeats 1000000 in
theorem sequence_no (s : ByteArray) (w : World) (h : 1 ≤ s.size) (hb : begB (rsz (ch s 0)) (rlo (ch s 0)) (rhi (ch s 0)) s = false) :
    Calls Try.prog 28 #[.string s] w fun e w' => e = .returned (.tuple #[.int .i64 ((seqN s).1 : Nat), .int .i64 ((seqN s).2 : Nat)]) ∧ Below w.heap.size w w' := by
  have hs : seqN s = (0, 0) := by unfold seqN; dsimp only; rw [hb]; rfl
  rw [hs]
  have i0 : ∀ w : World, (Instr.index 9 (.string s) (.int .i64 0)).run Try.prog w = .ok (.int .u8 (ch s 0 : Int)) w := fun w => idx (w := w) s 0 (by omega) .i64
  go_enter Try.func28, Try.ntmps28
  go_wp2_with (first | (go_at_call 38; refine (rowOf_any _ _).mono ?_; rintro e w1 ⟨rfl, hb1⟩) | (go_at_call 39; refine (begins_any _ _ _ (rsz_le _) _ _).mono ?_; rintro e w2 ⟨rfl, hb2⟩; obtain ⟨hc, hf⟩ := bcell hb2))
  go_ret2
  exact ⟨rfl, hb1.trans (((Below.refl _ _).alloc (Nat.le_refl _) _).trans (hb2.mono (by simp)) |>.mono hb1.size)⟩
set_option maxHeartbeats 1000000 in
theorem sequence_one (s : ByteArray) (w : World) (h : 1 ≤ s.size) (hb : begB (rsz (ch s 0)) (rlo (ch s 0)) (rhi (ch s 0)) s = true) (h1 : rsz (ch s 0) = 1) :
    Calls Try.prog 28 #[.string s] w fun e w' => e = .returned (.tuple #[.int .i64 ((seqN s).1 : Nat), .int .i64 ((seqN s).2 : Nat)]) ∧ Below w.heap.size w w' := by
  have hs : seqN s = (ch s 0, 1) := by unfold seqN; dsimp only; rw [hb, if_pos rfl, if_pos h1]
  rw [hs]
  rw [h1] at hb
  have i0 : ∀ w : World, (Instr.index 9 (.string s) (.int .i64 0)).run Try.prog w = .ok (.int .u8 (ch s 0 : Int)) w := fun w => idx (w := w) s 0 (by omega) .i64
  have hlt := ch_lt s 0
  go_enter Try.func28, Try.ntmps28
  go_wp2_with (first | (go_at_call 38; refine (rowOf_any _ _).mono ?_; rintro e w1 ⟨rfl, hb1⟩; rw [h1]) | (go_at_call 39; refine (begins_any _ _ _ (by decide) _ _).mono ?_; rintro e w2 ⟨rfl, hb2⟩; obtain ⟨hc, hf⟩ := bcell hb2))
  go_ret2
  exact ⟨rfl, hb1.trans (((Below.refl _ _).alloc (Nat.le_refl _) _).trans (hb2.mono (by simp)) |>.mono hb1.size)⟩
theorem i64_and_nat (a b : Nat) (ha : a < 9223372036854775808) (hb : b < 9223372036854775808) : bits .and .i64 (a : Int) (b : Int) = ((a &&& b : Nat) : Int) := by
  have hx : a &&& b < 2 ^ 63 := Nat.and_lt_two_pow _ (by omega)
  show IntKind.i64.wrap ((BitVec.ofInt 64 (a : Int) &&& BitVec.ofInt 64 (b : Int)).toNat : Int) = _
  rw [BitVec.toNat_and, ofInt_u64 a (by omega), ofInt_u64 b (by omega), IntKind.wrap_i64]
  omega
theorem i64_or_nat (a b : Nat) (ha : a < 9223372036854775808) (hb : b < 9223372036854775808) : bits .or .i64 (a : Int) (b : Int) = ((a ||| b : Nat) : Int) := by
  have hx : a ||| b < 2 ^ 63 := Nat.or_lt_two_pow (by omega) (by omega)
  show IntKind.i64.wrap ((BitVec.ofInt 64 (a : Int) ||| BitVec.ofInt 64 (b : Int)).toNat : Int) = _
  rw [BitVec.toNat_or, ofInt_u64 a (by omega), ofInt_u64 b (by omega), IntKind.wrap_i64]
  omega
/-- '[]byte(t)'. -/
theorem conv_bytes (t : ByteArray) (W : World) : (convert 9 22 (.string t)).run Try.prog W = .ok (.slice (some ⟨W.heap.size, 0, none⟩) t.size (grownCap W t.size 0 5)) (Lib.bytesWorld W 5 t) :=
  Lib.run_convert_string_bytes W 9 22 5 t Try.underlying9 Try.underlying22 Try.underlying5
theorem acc_or (c : Nat) (s : ByteArray) (i : Nat) (h : accN c s i < 144115188075855872) : bits .or .i64 ((accN c s i : Int) * 64) ((ch s (i + 1) : Int) % 64) = (accN c s (i + 1) : Nat) := by
  have h2 : ch s (i + 1) % 64 < 64 := Nat.mod_lt _ (by decide)
  rw [show ((accN c s i : Int) * 64) = ((accN c s i * 64 : Nat) : Int) by simp, show ((ch s (i + 1) : Int) % 64) = ((ch s (i + 1) % 64 : Nat) : Int) by simp, i64_or_nat _ _ (by omega) (by omega), nat_join 6 _ _ (by omega) (by omega)]
  rfl
theorem u8_and63 (c : Nat) (h : c < 256) : bits .and .u8 (c : Int) 63 = ((c % 64 : Nat) : Int) := by
  rw [show (63 : Int) = ((63 : Nat) : Int) from rfl, u8_and_nat c 63 h (by decide)]
  congr 1
  exact Nat.and_two_pow_sub_one_eq_mod c 6
theorem i64_and31 (c : Nat) (h : c < 256) : bits .and .i64 (c : Int) 31 = ((c % 32 : Nat) : Int) := by
  rw [show (31 : Int) = ((31 : Nat) : Int) from rfl, i64_and_nat c 31 (by omega) (by decide)]
  congr 1
  exact Nat.and_two_pow_sub_one_eq_mod c 5
set_option maxHeartbeats 1000000 in
theorem sequence_2 (s : ByteArray) (w : World) (_ : 1 ≤ s.size) (hb : begB (rsz (ch s 0)) (rlo (ch s 0)) (rhi (ch s 0)) s = true) (h1 : rsz (ch s 0) = 2) :
    Calls Try.prog 28 #[.string s] w fun e w' => e = .returned (.tuple #[.int .i64 ((seqN s).1 : Nat), .int .i64 ((seqN s).2 : Nat)]) ∧ Below w.heap.size w w' := by
  have hs : seqN s = (accN (ch s 0 % 32) s 1, 2) := by unfold seqN; dsimp only; rw [hb, if_pos rfl, h1, if_neg (by decide)]
  rw [hs]
  rw [h1] at hb
  have hsz : 2 ≤ s.size := by unfold begB at hb; simp only [Bool.and_eq_true, decide_eq_true_eq] at hb; exact hb.1
  have i0 : ∀ w : World, (Instr.index 9 (.string s) (.int .i64 0)).run Try.prog w = .ok (.int .u8 (ch s 0 : Int)) w := fun w => idx (w := w) s 0 (by omega) .i64
  have hlt := ch_lt s 0
  have hand := i64_and31 (ch s 0) hlt
  have hsl : ∀ w : World, (Instr.slice 9 (.string s) (some (.int .i64 1)) (some (.int .i64 2)) none).run Try.prog w = .ok (.string (s.extract 1 2)) w := fun w => run_slice_string w 9 s .i64 .i64 1 2 Try.underlying9 (by decide) (by decide) (by omega)
  have hez : (s.extract 1 2).size = 1 := size_ext s 1 2 hsz
  have hcv := fun W => conv_bytes (s.extract 1 2) W
  have hbc : Hid (∀ (W : World) j, j < 1 → (Lib.bytesWorld W 5 (s.extract 1 2)).cell? ⟨W.heap.size, j, none⟩ = some (.int .u8 (ch s (j + 1)))) := fun W j hj => by
    rw [Lib.bytesWorld_cell W _ _ j (by rw [hez]; exact hj)]
    have := ch_ext s 1 2 j (by omega)
    unfold ch at this ⊢
    rw [this, Nat.add_comm]
  have hbo : Hid (∀ (W : World) b o, b < W.heap.size → (Lib.bytesWorld W 5 (s.extract 1 2)).cell? ⟨b, o, none⟩ = W.cell? ⟨b, o, none⟩) := fun W b o hl => Lib.bytesWorld_old W _ _ ⟨b, o, none⟩ hl
  go_enter Try.func28, Try.ntmps28
  go_wp2_with (first | (go_at_call 38; refine (rowOf_any _ _).mono ?_; rintro e w1 ⟨rfl, hb1⟩; rw [h1]) | (go_at_call 39; refine (begins_any _ _ _ (by decide) _ _).mono ?_; rintro e w2 ⟨rfl, hb2⟩; obtain ⟨hc, hf⟩ := bcell hb2))
  go_quiet (fail)
  go_wp2
  have hlw : w1.heap.size < w2.heap.size := Nat.lt_of_lt_of_le (by simp) hb2.size
  have hbo2 : ∀ n o, (Lib.bytesWorld (w2.drewN n) 5 (s.extract 1 2)).cell? ⟨w1.heap.size, o, none⟩ = w2.cell? ⟨w1.heap.size, o, none⟩ := fun n o => hbo.out (w2.drewN n) _ o hlw
  have B3 : Hid (Below w.heap.size w (Lib.bytesWorld (w2.drewN nq) 5 (s.extract 1 2))) := by
    have B1 := hb1.trans (((Below.refl _ _).alloc (Nat.le_refl _) _).trans (hb2.mono (by simp)) |>.mono hb1.size)
    have B2 : Below w.heap.size w (w2.drewN nq) := bdN B1 _
    exact B2.trans ((Lib.bytesWorld_below (w2.drewN nq) _ _).mono B1.size)
  go_loop [2, 35] (fun n i => ∃ k : Nat, k ≤ 1 ∧ i = .int .i64 k ∧ n = .int .i64 (accN (ch s 0 % 32) s k : Nat)) (fun _ i => 1 - (intOf i).toNat)
  case atStart => exact ⟨0, by omega, rfl, rfl⟩
  case round =>
    obtain ⟨k, hk, rfl, rfl⟩ := hrel
    have hab := accN_lt (ch s 0 % 32) s (by omega) k
    have hp : (64 : Nat) ^ k ≤ 64 ^ 3 := Nat.pow_le_pow_right (by decide) (by omega)
    by_cases hlt : k < 1
    · have hbk : ∀ n, (Lib.bytesWorld (w2.drewN n) 5 (s.extract 1 2)).cell? ⟨w2.heap.size, k, none⟩ = some (.int .u8 (ch s (k + 1))) := fun n => hbc.out (w2.drewN n) k hlt
      have hor := acc_or (ch s 0 % 32) s k (by omega)
      have hc63 := u8_and63 (ch s (k + 1)) (ch_lt _ _)
      go_wp2
      go_round
      case rel => exact ⟨k + 1, by omega, by go_num, rfl⟩
      case measure => simp [intOf]; omega
    · obtain rfl : k = 1 := by omega
      go_wp2
      go_quiet (fail)
      go_wp2
      go_ret2
      refine ⟨rfl, ?_⟩
      exact bdN B3.out _
theorem i64_and15 (c : Nat) (h : c < 256) : bits .and .i64 (c : Int) 15 = ((c % 16 : Nat) : Int) := by
  rw [show (15 : Int) = ((15 : Nat) : Int) from rfl, i64_and_nat c 15 (by omega) (by decide)]
  congr 1
  exact Nat.and_two_pow_sub_one_eq_mod c 4
set_option maxHeartbeats 1000000 in
theorem sequence_3 (s : ByteArray) (w : World) (_ : 1 ≤ s.size) (hb : begB (rsz (ch s 0)) (rlo (ch s 0)) (rhi (ch s 0)) s = true) (h1 : rsz (ch s 0) = 3) :
    Calls Try.prog 28 #[.string s] w fun e w' => e = .returned (.tuple #[.int .i64 ((seqN s).1 : Nat), .int .i64 ((seqN s).2 : Nat)]) ∧ Below w.heap.size w w' := by
  have hs : seqN s = (accN (ch s 0 % 16) s 2, 3) := by unfold seqN; dsimp only; rw [hb, if_pos rfl, h1, if_neg (by decide)]
  rw [hs]
  rw [h1] at hb
  have hsz : 3 ≤ s.size := by unfold begB at hb; simp only [Bool.and_eq_true, decide_eq_true_eq] at hb; exact hb.1
  have i0 : ∀ w : World, (Instr.index 9 (.string s) (.int .i64 0)).run Try.prog w = .ok (.int .u8 (ch s 0 : Int)) w := fun w => idx (w := w) s 0 (by omega) .i64
  have hlt := ch_lt s 0
  have hand := i64_and15 (ch s 0) hlt
  have hsl : ∀ w : World, (Instr.slice 9 (.string s) (some (.int .i64 1)) (some (.int .i64 3)) none).run Try.prog w = .ok (.string (s.extract 1 3)) w := fun w => run_slice_string w 9 s .i64 .i64 1 3 Try.underlying9 (by decide) (by decide) (by omega)
  have hez : (s.extract 1 3).size = 2 := size_ext s 1 3 hsz
  have hcv := fun W => conv_bytes (s.extract 1 3) W
  have hbc : Hid (∀ (W : World) j, j < 2 → (Lib.bytesWorld W 5 (s.extract 1 3)).cell? ⟨W.heap.size, j, none⟩ = some (.int .u8 (ch s (j + 1)))) := fun W j hj => by
    rw [Lib.bytesWorld_cell W _ _ j (by rw [hez]; exact hj)]
    have := ch_ext s 1 3 j (by omega)
    unfold ch at this ⊢
    rw [this, Nat.add_comm]
  have hbo : Hid (∀ (W : World) b o, b < W.heap.size → (Lib.bytesWorld W 5 (s.extract 1 3)).cell? ⟨b, o, none⟩ = W.cell? ⟨b, o, none⟩) := fun W b o hl => Lib.bytesWorld_old W _ _ ⟨b, o, none⟩ hl
  go_enter Try.func28, Try.ntmps28
  go_wp2_with (first | (go_at_call 38; refine (rowOf_any _ _).mono ?_; rintro e w1 ⟨rfl, hb1⟩; rw [h1]) | (go_at_call 39; refine (begins_any _ _ _ (by decide) _ _).mono ?_; rintro e w2 ⟨rfl, hb2⟩; obtain ⟨hc, hf⟩ := bcell hb2))
  go_quiet (fail)
  go_wp2
  have hlw : w1.heap.size < w2.heap.size := Nat.lt_of_lt_of_le (by simp) hb2.size
  have hbo2 : ∀ n o, (Lib.bytesWorld (w2.drewN n) 5 (s.extract 1 3)).cell? ⟨w1.heap.size, o, none⟩ = w2.cell? ⟨w1.heap.size, o, none⟩ := fun n o => hbo.out (w2.drewN n) _ o hlw
  have B3 : Hid (Below w.heap.size w (Lib.bytesWorld (w2.drewN nq) 5 (s.extract 1 3))) := by
    have B1 := hb1.trans (((Below.refl _ _).alloc (Nat.le_refl _) _).trans (hb2.mono (by simp)) |>.mono hb1.size)
    have B2 : Below w.heap.size w (w2.drewN nq) := bdN B1 _
    exact B2.trans ((Lib.bytesWorld_below (w2.drewN nq) _ _).mono B1.size)
  go_loop [2, 35] (fun n i => ∃ k : Nat, k ≤ 2 ∧ i = .int .i64 k ∧ n = .int .i64 (accN (ch s 0 % 16) s k : Nat)) (fun _ i => 2 - (intOf i).toNat)
  case atStart => exact ⟨0, by omega, rfl, rfl⟩
  case round =>
    obtain ⟨k, hk, rfl, rfl⟩ := hrel
    have hab := accN_lt (ch s 0 % 16) s (by omega) k
    have hp : (64 : Nat) ^ k ≤ 64 ^ 3 := Nat.pow_le_pow_right (by decide) (by omega)
    by_cases hlt : k < 2
    · have hbk : ∀ n, (Lib.bytesWorld (w2.drewN n) 5 (s.extract 1 3)).cell? ⟨w2.heap.size, k, none⟩ = some (.int .u8 (ch s (k + 1))) := fun n => hbc.out (w2.drewN n) k hlt
      have hor := acc_or (ch s 0 % 16) s k (by omega)
      have hc63 := u8_and63 (ch s (k + 1)) (ch_lt _ _)
      go_wp2
      go_round
      case rel => exact ⟨k + 1, by omega, by go_num, rfl⟩
      case measure => simp [intOf]; omega
    · obtain rfl : k = 2 := by omega
      go_wp2
      go_quiet (fail)
      go_wp2
      go_ret2
      refine ⟨rfl, ?_⟩
      exact bdN B3.out _
theorem i64_and7 (c : Nat) (h : c < 256) : bits .and .i64 (c : Int) 7 = ((c % 8 : Nat) : Int) := by
  rw [show (7 : Int) = ((7 : Nat) : Int) from rfl, i64_and_nat c 7 (by omega) (by decide)]
  congr 1
  exact Nat.and_two_pow_sub_one_eq_mod c 3
set_option maxHeartbeats 1000000 in
theorem sequence_4 (s : ByteArray) (w : World) (_ : 1 ≤ s.size) (hb : begB (rsz (ch s 0)) (rlo (ch s 0)) (rhi (ch s 0)) s = true) (h1 : rsz (ch s 0) = 4) :
    Calls Try.prog 28 #[.string s] w fun e w' => e = .returned (.tuple #[.int .i64 ((seqN s).1 : Nat), .int .i64 ((seqN s).2 : Nat)]) ∧ Below w.heap.size w w' := by
  have hs : seqN s = (accN (ch s 0 % 8) s 3, 4) := by unfold seqN; dsimp only; rw [hb, if_pos rfl, h1, if_neg (by decide)]
  rw [hs]
  rw [h1] at hb
  have hsz : 4 ≤ s.size := by unfold begB at hb; simp only [Bool.and_eq_true, decide_eq_true_eq] at hb; exact hb.1
  have i0 : ∀ w : World, (Instr.index 9 (.string s) (.int .i64 0)).run Try.prog w = .ok (.int .u8 (ch s 0 : Int)) w := fun w => idx (w := w) s 0 (by omega) .i64
  have hlt := ch_lt s 0
  have hand := i64_and7 (ch s 0) hlt
  have hsl : ∀ w : World, (Instr.slice 9 (.string s) (some (.int .i64 1)) (some (.int .i64 4)) none).run Try.prog w = .ok (.string (s.extract 1 4)) w := fun w => run_slice_string w 9 s .i64 .i64 1 4 Try.underlying9 (by decide) (by decide) (by omega)
  have hez : (s.extract 1 4).size = 3 := size_ext s 1 4 hsz
  have hcv := fun W => conv_bytes (s.extract 1 4) W
  have hbc : Hid (∀ (W : World) j, j < 3 → (Lib.bytesWorld W 5 (s.extract 1 4)).cell? ⟨W.heap.size, j, none⟩ = some (.int .u8 (ch s (j + 1)))) := fun W j hj => by
    rw [Lib.bytesWorld_cell W _ _ j (by rw [hez]; exact hj)]
    have := ch_ext s 1 4 j (by omega)
    unfold ch at this ⊢
    rw [this, Nat.add_comm]
  have hbo : Hid (∀ (W : World) b o, b < W.heap.size → (Lib.bytesWorld W 5 (s.extract 1 4)).cell? ⟨b, o, none⟩ = W.cell? ⟨b, o, none⟩) := fun W b o hl => Lib.bytesWorld_old W _ _ ⟨b, o, none⟩ hl
  go_enter Try.func28, Try.ntmps28
  go_wp2_with (first | (go_at_call 38; refine (rowOf_any _ _).mono ?_; rintro e w1 ⟨rfl, hb1⟩; rw [h1]) | (go_at_call 39; refine (begins_any _ _ _ (by decide) _ _).mono ?_; rintro e w2 ⟨rfl, hb2⟩; obtain ⟨hc, hf⟩ := bcell hb2))
  go_quiet (fail)
  go_wp2
  have hlw : w1.heap.size < w2.heap.size := Nat.lt_of_lt_of_le (by simp) hb2.size
  have hbo2 : ∀ n o, (Lib.bytesWorld (w2.drewN n) 5 (s.extract 1 4)).cell? ⟨w1.heap.size, o, none⟩ = w2.cell? ⟨w1.heap.size, o, none⟩ := fun n o => hbo.out (w2.drewN n) _ o hlw
  have B3 : Hid (Below w.heap.size w (Lib.bytesWorld (w2.drewN nq) 5 (s.extract 1 4))) := by
    have B1 := hb1.trans (((Below.refl _ _).alloc (Nat.le_refl _) _).trans (hb2.mono (by simp)) |>.mono hb1.size)
    have B2 : Below w.heap.size w (w2.drewN nq) := bdN B1 _
    exact B2.trans ((Lib.bytesWorld_below (w2.drewN nq) _ _).mono B1.size)
  go_loop [2, 35] (fun n i => ∃ k : Nat, k ≤ 3 ∧ i = .int .i64 k ∧ n = .int .i64 (accN (ch s 0 % 8) s k : Nat)) (fun _ i => 3 - (intOf i).toNat)
  case atStart => exact ⟨0, by omega, rfl, rfl⟩
  case round =>
    obtain ⟨k, hk, rfl, rfl⟩ := hrel
    have hab := accN_lt (ch s 0 % 8) s (by omega) k
    have hp : (64 : Nat) ^ k ≤ 64 ^ 3 := Nat.pow_le_pow_right (by decide) (by omega)
    by_cases hlt : k < 3
    · have hbk : ∀ n, (Lib.bytesWorld (w2.drewN n) 5 (s.extract 1 4)).cell? ⟨w2.heap.size, k, none⟩ = some (.int .u8 (ch s (k + 1))) := fun n => hbc.out (w2.drewN n) k hlt
      have hor := acc_or (ch s 0 % 8) s k (by omega)
      have hc63 := u8_and63 (ch s (k + 1)) (ch_lt _ _)
      go_wp2
      go_round
      case rel => exact ⟨k + 1, by omega, by go_num, rfl⟩
      case measure => simp [intOf]; omega
    · obtain rfl : k = 3 := by omega
      go_wp2
      go_quiet (fail)
      go_wp2
      go_ret2
      refine ⟨rfl, ?_⟩
      exact bdN B3.out _
theorem sequence_any (s : ByteArray) (w : World) (h : 1 ≤ s.size) :
    Calls Try.prog 28 #[.string s] w fun e w' => e = .returned (.tuple #[.int .i64 ((seqN s).1 : Nat), .int .i64 ((seqN s).2 : Nat)]) ∧ Below w.heap.size w w' := by
  cases hb : begB (rsz (ch s 0)) (rlo (ch s 0)) (rhi (ch s 0)) s
  · exact sequence_no s w h hb
  · have h4 := rsz_le (ch s 0)
    have : rsz (ch s 0) = 0 ∨ rsz (ch s 0) = 1 ∨ rsz (ch s 0) = 2 ∨ rsz (ch s 0) = 3 ∨ rsz (ch s 0) = 4 := by omega
    rcases this with e | e | e | e | e
    · rw [e] at hb
      unfold begB at hb
      simp at hb
    · exact sequence_one s w h hb e
    · exact sequence_2 s w h hb e
    · exact sequence_3 s w h hb e
    · exact sequence_4 s w h hb e
end Go.Proofs.Ythiilkmnbjgoaaa
