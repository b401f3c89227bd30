/- The walk of TextNumbers. -/
import Derived.Test.YthiilkmnbjgoaaaNumQ
import Derived.Deep.CutBlock
namespace Go.Proofs.Ythiilkmnbjgoaaa
open Go.ChangeShapes Go.WideShapes Go.ChangeAt Go.RowKit

set_option maxRecDepth 100000 in
set_option maxHeartbeats 40000000 in
theorem numbers_walk (n0 z0 : Int) (ah : ByteArray) (hn : -9223372036854775808 ≤ n0) (ha : -9223372036854775808 ≤ z0) (hn2 : n0 ≤ 9223372036854775807) (ha2 : z0 ≤ 9223372036854775807) (w : World) :
    Calls Try.prog 5 #[.int .i64 n0, .int .i64 z0, .string ah] w fun e w' => e = .returned (.bool true) ∧ Below w.heap.size w w' := by
  have et : ({ data := #[] } : ByteArray).toList = [] := by rw [ByteArray.toList_eq]
  go_enter Try.func5, Try.ntmps5
  go_upto_if 21 with fail
  go_cut [0] (fun s wx => (∃ y : Nat, y ≤ 9223372036854775807 ∧ s = .int .i64 (y : Int)) ∧ wx = w)
  case first =>
    by_cases h : n0 < 0
    · have d : decide (n0 < 0) = true := by simp [h]
      go_wp2_with fail
      go_meet
      case rel => exact ⟨⟨(-(n0 + 1)).toNat, by omega, congrArg (Value.int .i64) (by omega)⟩, rfl⟩
    · have d : decide (n0 < 0) = false := by simp; omega
      go_wp2_with fail
      go_meet
      case rel => exact ⟨⟨n0.toNat, by omega, congrArg (Value.int .i64) (by omega)⟩, rfl⟩
  case rest =>
  obtain ⟨⟨y, hy, rfl⟩, rfl⟩ := hcut
  go_upto_if 28 with fail
  go_cut [0, 1] (fun s s1 wx => (∃ x : Nat, x ≤ 1179647 ∧ s = .int .i64 (x : Int)) ∧ (∃ z : Nat, z ≤ 9223372036854775807 ∧ s1 = .int .i64 (z : Int)) ∧ wx = wc)
  case first =>
    by_cases h : z0 < 0
    · have d : decide (z0 < 0) = true := by simp [h]
      go_wp2_with fail
      go_meet
      case rel => exact ⟨⟨y % 1179648, by omega, congrArg (Value.int .i64) (by omega)⟩, ⟨(-(z0 + 1)).toNat, by omega, congrArg (Value.int .i64) (by omega)⟩, rfl⟩
    · have d : decide (z0 < 0) = false := by simp; omega
      go_wp2_with fail
      go_meet
      case rel => exact ⟨⟨y % 1179648, by omega, congrArg (Value.int .i64) (by omega)⟩, ⟨z0.toNat, by omega, congrArg (Value.int .i64) (by omega)⟩, rfl⟩
  case rest =>
  clear hy
  obtain ⟨⟨x, hx, rfl⟩, ⟨z, hz, rfl⟩, rfl⟩ := hcut
  clear hn ha hn2 ha2
  rename World => w
  go_upto_block 0 with fail
  go_cut [7, 8] (fun v _ wx => ∃ fr : List Nat, fr.length ≤ 64 ∧ Hid (∀ c ∈ fr, c < 256 ∧ ¬ c = 38) ∧ Buf wx w.heap.size v fr ∧ Below w.heap.size w wx)
  case first =>
   as_aux_lemma =>
    go_wp2_with fail
    go_loopw [7, 8] (fun v i wr => ∃ k : Nat, k ≤ 64 ∧ k ≤ ah.size ∧ i = .int .i64 k ∧ Buf wr w.heap.size v (((lOf ah).take k).filter (fun c => !(c == 38))) ∧ Below w.heap.size w wr) (fun _ i _ => 64 - (intOf i).toNat)
    case atStart => exact ⟨0, by omega, Nat.zero_le _, rfl, Buf.nil _ _, Below.refl _ _⟩
    case round =>
      obtain ⟨k, hk, hka, rfl, hB, HB⟩ := hrel
      by_cases hgo : k < ah.size ∧ k < 64
      · have d1 : decide ((k : Int) < (ah.size : Int)) = true := by simp; omega
        have d2 : decide ((k : Int) < 64) = true := by simp; omega
        have ix : ∀ w : World, (Instr.index 9 (.string ah) (.int .i64 (k : Int))).run Try.prog w = .ok (.int .u8 (ch ah k : Int)) w := fun w => idx (w := w) ah k hgo.1 .i64
        have hst := take_succ_ch ah k hgo.1
        obtain ⟨hg1, hg2⟩ := hgo
        by_cases h38 : ch ah k = 38
        · have q : ((ch ah k : Int) == 38) = true := by simp; omega
          have q' : ((ch ah k : Int) != 38) = false := by simp; omega
          have hB2 : Buf wr w.heap.size u7 (((lOf ah).take (k + 1)).filter (fun c => !(c == 38))) := by
            rw [hst, List.filter_append]
            simpa [h38] using hB
          clear h38
          go_wp2_with fail
          go_roundw
          case rel => exact ⟨k + 1, by omega, by omega, by go_num, hB2, HB⟩
          case measure => simp [intOf]; omega
        · have q : ((ch ah k : Int) == 38) = false := by simp; omega
          have q' : ((ch ah k : Int) != 38) = true := by simp; omega
          have hfl : (((lOf ah).take k).filter (fun c => !(c == 38))).length ≤ k := Nat.le_trans (List.length_filter_le _ _) (by rw [List.length_take]; omega)
          obtain ⟨v3, w3, hrun, hb3, hbel3⟩ := hB.lit [ch ah k] 1 1 rfl (by simp only [List.length_cons, List.length_nil]; omega) HB.size
          have hrun : ∀ ty, (Builtin.append_ #[22, 22] ty #[u7, .slice (some ⟨wr.heap.size, 0, none⟩) 1 1]).run Try.prog (wr.alloc (.cells #[.int .u8 (ch ah k : Int)] 5)) = .ok v3 w3 := hrun
          have hB2 : Buf w3 w.heap.size v3 (((lOf ah).take (k + 1)).filter (fun c => !(c == 38))) := by
            rw [hst, List.filter_append]
            simpa [h38] using hb3
          clear h38 hb3 hB hfl
          go_wp2_with (at_builtin; refine (wpList_append_ex (by rfl) _ _ _ _ (by rfl) _ _ (by rfl) (by rfl) (fun a b => a = v3 ∧ b = w3) ⟨v3, w3, hrun, rfl, rfl⟩ ?_); rintro _ _ ⟨rfl, rfl⟩)
          go_roundw
          case rel => exact ⟨k + 1, by omega, by omega, by go_num, hB2, HB.trans hbel3⟩
          case measure => simp [intOf]; omega
      · have hfl : (((lOf ah).take k).filter (fun c => !(c == 38))).length ≤ k := Nat.le_trans (List.length_filter_le _ _) (by rw [List.length_take]; omega)
        have hfr := frL_lt ((lOf ah).take k) (fun c hc => lOf_lt ah c (List.mem_of_mem_take hc))
        generalize ((lOf ah).take k).filter (fun c => !(c == 38)) = fr at hB hfl hfr
        by_cases h1 : k < ah.size
        · have d1 : decide ((k : Int) < (ah.size : Int)) = true := by simp; omega
          have d2 : decide ((k : Int) < 64) = false := by simp; omega
          go_wp2_with fail
          go_meet
          case rel => exact ⟨fr, by omega, hfr, hB, HB⟩
        · have d1 : decide ((k : Int) < (ah.size : Int)) = false := by simp; omega
          go_wp2_with fail
          go_meet
          case rel => exact ⟨fr, by omega, hfr, hB, HB⟩
  case rest =>
  obtain ⟨fr, hfl, hfr, hB, HB⟩ := hcut
  go_upto_block 2 with fail
  go_cut [9, 11] (fun s _ wx => ∃ D : List Nat, s = .string (sOf D) ∧ Hid (digL 10 D) ∧ Hid (D ≠ []) ∧ Hid (valL 10 D = x) ∧ D.length ≤ 1179648 ∧ Buf wx w.heap.size u7 fr ∧ Below w.heap.size w wx)
  case first =>
   as_aux_lemma =>
    go_wp2_with fail
    go_loopw [9, 11] (fun s i wr => ∃ (D : List Nat) (v : Nat), s = .string (sOf D) ∧ i = .int .i64 (v : Int) ∧ v ≤ 1179647 ∧ Hid (digL 10 D) ∧ Hid (v * 10 ^ D.length + valL 10 D = x) ∧ D.length + v ≤ 1179648 ∧ (v = 0 → D = [] ∨ D ≠ []) ∧ Buf wr w.heap.size u7 fr ∧ Below w.heap.size w wr) (fun s i _ => 2 * (intOf i).toNat + emptyM s)
    case atStart => exact ⟨[], x, rfl, rfl, hx, digL_nil 10, by show x * 10 ^ 0 + 0 = x; simp, by simp; omega, fun _ => Or.inl rfl, hB, HB⟩
    case round =>
      obtain ⟨D, v, rfl, rfl, hv, hD, hval, hlen, -, hB, HB⟩ := hrel
      have zD : (sOf D).size = D.length := sOf_size D
      by_cases hgo : v = 0 ∧ D ≠ []
      · obtain ⟨rfl, hne⟩ := hgo
        cases D with
        | nil => exact absurd rfl hne
        | cons c D =>
          have e1 := toList_cons c D
          go_wp2_with fail
          go_meet
          case rel => exact ⟨c :: D, rfl, hD, hne, by show valL 10 (c :: D) = x; have := hval.out; simpa using this, by simpa using hlen, hB, HB⟩
      · have hsz2 : 1 + D.length ≤ 9223372036854775807 := by omega
        have hs1 : strOfNums [48 + (v : Int) % 10] = sOf [48 + v % 10] := by have := nums_one (48 + v % 10); simpa using this
        have hz1 : (sOf [48 + v % 10]).size = 1 := sOf_size _
        have hs2 := sOf_cons (48 + v % 10) D
        have cv := conv_one
        have hdk := dec_ok v
        have hD2 : Hid (digL 10 ((48 + v % 10) :: D)) := digL_cons hD.out ⟨hdk.1, hdk.2.1⟩ hdk.2.2 (Nat.mod_lt _ (by decide))
        have hval2 : Hid (v / 10 * 10 ^ ((48 + v % 10) :: D).length + valL 10 ((48 + v % 10) :: D) = x) := val_step 10 _ v x D hdk.2.2 hval.out
        clear hdk
        have hfin : ∀ u : Value, True := fun _ => trivial
        clear hfin
        by_cases hv0 : 0 < v
        · have d1 : decide (0 < (v : Int)) = true := by simp; omega
          go_wp2_with fail
          go_roundw
          case rel => exact ⟨(48 + v % 10) :: D, v / 10, rfl, congrArg (Value.int .i64) (by simp), by omega, hD2, hval2, by simp; omega, fun _ => Or.inr (by simp), hB.below (bel1 _ _), HB.alloc HB.size _⟩
          case measure => rw [emptyM_cons]; simp [intOf]; omega
        · obtain rfl : v = 0 := by omega
          obtain rfl : D = [] := by
            cases D with
            | nil => rfl
            | cons c D => exact absurd ⟨rfl, by simp⟩ hgo
          have d1 : decide ((0 : Int) < 0) = false := by decide
          have e1 : ((sOf []).toList == []) = true := by rw [toList_nil]; rfl
          go_wp2_with fail
          go_roundw
          case rel => exact ⟨[48 + 0 % 10], 0, rfl, rfl, by omega, hD2, hval2, by simp, fun _ => Or.inr (by simp), hB.below (bel1 _ _), HB.alloc HB.size _⟩
          case measure => first | decide | (rw [emptyM_cons, emptyM_nil]; simp [intOf])
  case rest =>
  clear hB HB
  obtain ⟨D, rfl, hD, hDne, hDv, hDl, hB, HB⟩ := hcut
  go_upto_block 4 with fail
  go_cut [10, 12] (fun s _ wx => ∃ D : List Nat, s = .string (sOf D) ∧ Hid (digL 16 D) ∧ Hid (D ≠ []) ∧ Hid (valL 16 D = x) ∧ D.length ≤ 1179648 ∧ Buf wx w.heap.size u7 fr ∧ Below w.heap.size w wx)
  case first =>
   as_aux_lemma =>
    go_wp2_with fail
    go_loopw [10, 12] (fun s i wr => ∃ (D : List Nat) (v : Nat), s = .string (sOf D) ∧ i = .int .i64 (v : Int) ∧ v ≤ 1179647 ∧ Hid (digL 16 D) ∧ Hid (v * 16 ^ D.length + valL 16 D = x) ∧ D.length + v ≤ 1179648 ∧ (v = 0 → D = [] ∨ D ≠ []) ∧ Buf wr w.heap.size u7 fr ∧ Below w.heap.size w wr) (fun s i _ => 2 * (intOf i).toNat + emptyM s)
    case atStart => exact ⟨[], x, rfl, rfl, hx, digL_nil 16, by show x * 16 ^ 0 + 0 = x; simp, by simp; omega, fun _ => Or.inl rfl, hB, HB⟩
    case round =>
      obtain ⟨D, v, rfl, rfl, hv, hD, hval, hlen, -, hB, HB⟩ := hrel
      have zD : (sOf D).size = D.length := sOf_size D
      by_cases hgo : v = 0 ∧ D ≠ []
      · obtain ⟨rfl, hne⟩ := hgo
        cases D with
        | nil => exact absurd rfl hne
        | cons c D =>
          have e1 := toList_cons c D
          go_wp2_with fail
          go_meet
          case rel => exact ⟨c :: D, rfl, hD, hne, by show valL 16 (c :: D) = x; have := hval.out; simpa using this, by simpa using hlen, hB, HB⟩
      · have hsz2 : 1 + D.length ≤ 9223372036854775807 := by omega
        have hs1 : ∀ w : World, (Instr.slice 9 (.string { data := #[48, 49, 50, 51, 52, 53, 54, 55, 56, 57, 97, 66, 99, 68, 101, 70] }) (some (.int .i64 ((v : Int) % 16))) (some (.int .i64 ((v : Int) % 16 + 1))) none).run Try.prog w = .ok (.string (sOf [hexA (v % 16)])) w := fun w => by
          rw [← hexA_ext (v % 16) (by omega)]
          exact run_slice_string w 9 hexAS .i64 .i64 ((v % 16 : Nat) : Int) ((v % 16 + 1 : Nat) : Int) Try.underlying9 (by omega) (by omega) (by show ((v % 16 + 1 : Nat) : Int) ≤ 16; omega)
        have hz1 : (sOf [hexA (v % 16)]).size = 1 := sOf_size _
        have hs2 := sOf_cons (hexA (v % 16)) D
        have hdk := hexA_ok (v % 16) (by omega)
        have hD2 : Hid (digL 16 (hexA (v % 16) :: D)) := digL_cons hD.out ⟨hdk.1, hdk.2.1⟩ hdk.2.2 (Nat.mod_lt _ (by decide))
        have hval2 : Hid (v / 16 * 16 ^ (hexA (v % 16) :: D).length + valL 16 (hexA (v % 16) :: D) = x) := val_step 16 _ v x D hdk.2.2 hval.out
        clear hdk
        have hfin : ∀ u : Value, True := fun _ => trivial
        clear hfin
        by_cases hv0 : 0 < v
        · have d1 : decide (0 < (v : Int)) = true := by simp; omega
          go_wp2_with fail
          go_roundw
          case rel => exact ⟨hexA (v % 16) :: D, v / 16, rfl, congrArg (Value.int .i64) (by simp), by omega, hD2, hval2, by simp; omega, fun _ => Or.inr (by simp), hB, HB⟩
          case measure => rw [emptyM_cons]; simp [intOf]; omega
        · obtain rfl : v = 0 := by omega
          obtain rfl : D = [] := by
            cases D with
            | nil => rfl
            | cons c D => exact absurd ⟨rfl, by simp⟩ hgo
          have d1 : decide ((0 : Int) < 0) = false := by decide
          have e1 : ((sOf []).toList == []) = true := by rw [toList_nil]; rfl
          go_wp2_with fail
          go_roundw
          case rel => exact ⟨[hexA (0 % 16)], 0, rfl, rfl, by omega, hD2, hval2, by simp, fun _ => Or.inr (by simp), hB, HB⟩
          case measure => first | decide | (rw [emptyM_cons, emptyM_nil]; simp [intOf])
  case rest =>
  clear hB HB
  obtain ⟨H, rfl, hH, hHne, hHv, hHl, hB, HB⟩ := hcut
  go_upto_block 6 with fail
  go_cut [9, 10, 13] (fun s s2 _ wx => ∃ D H : List Nat, s = .string (sOf D) ∧ s2 = .string (sOf H) ∧ Hid (digL 10 D) ∧ Hid (D ≠ []) ∧ Hid (valL 10 D = x) ∧ D.length ≤ 1179678 ∧ Hid (digL 16 H) ∧ Hid (H ≠ []) ∧ Hid (valL 16 H = x) ∧ H.length ≤ 1179678 ∧ wx = wc)
  case first =>
   as_aux_lemma =>
    go_wp2_with fail
    go_loop [9, 10, 13] (fun s s2 i => ∃ (D H : List Nat) (k : Nat), s = .string (sOf D) ∧ s2 = .string (sOf H) ∧ i = .int .i64 (k : Int) ∧ k ≤ z % 30 ∧ Hid (digL 10 D) ∧ Hid (D ≠ []) ∧ Hid (valL 10 D = x) ∧ D.length ≤ 1179648 + k ∧ Hid (digL 16 H) ∧ Hid (H ≠ []) ∧ Hid (valL 16 H = x) ∧ H.length ≤ 1179648 + k) (fun _ _ i => z % 30 - (intOf i).toNat)
    case atStart => exact ⟨D, H, 0, rfl, rfl, rfl, Nat.zero_le _, hD, hDne, hDv, by omega, hH, hHne, hHv, by omega⟩
    case round =>
      clear hD hDne hDv hDl hH hHne hHv hHl
      obtain ⟨D, H, k, rfl, rfl, rfl, hk, hD, hDne, hDv, hDl, hH, hHne, hHv, hHl⟩ := hrel
      have hz30 : z % 30 < 30 := Nat.mod_lt _ (by decide)
      by_cases hlt : k < z % 30
      · have d1 : decide ((k : Int) < (z : Int) % 30) = true := by simp; omega
        have zD : (sOf D).size = D.length := sOf_size D
        have zH : (sOf H).size = H.length := sOf_size H
        have z1 : 1 + D.length ≤ 9223372036854775807 := by omega
        have z2 : 1 + H.length ≤ 9223372036854775807 := by omega
        have s1 : ({ data := #[48] } : ByteArray) ++ sOf D = sOf (48 :: D) := sOf_cons 48 D
        have s2 : ({ data := #[48] } : ByteArray) ++ sOf H = sOf (48 :: H) := sOf_cons 48 H
        have hD2 : Hid (digL 10 (48 :: D)) := digL_cons hD.out ⟨by decide, by decide⟩ (d := 0) rfl (by decide)
        have hH2 : Hid (digL 16 (48 :: H)) := digL_cons hH.out ⟨by decide, by decide⟩ (d := 0) rfl (by decide)
        have hDv2 : Hid (valL 10 (48 :: D) = x) := by show 0 * 10 ^ D.length + valL 10 D = x; rw [Nat.zero_mul, Nat.zero_add]; exact hDv
        have hHv2 : Hid (valL 16 (48 :: H) = x) := by show 0 * 16 ^ H.length + valL 16 H = x; rw [Nat.zero_mul, Nat.zero_add]; exact hHv
        go_wp2_with fail
        go_round
        case rel => exact ⟨48 :: D, 48 :: H, k + 1, rfl, rfl, by go_num, by omega, hD2, by show (48 :: D) ≠ []; simp, hDv2, by simp; omega, hH2, by show (48 :: H) ≠ []; simp, hHv2, by simp; omega⟩
        case measure => simp [intOf]; omega
      · obtain rfl : k = z % 30 := by omega
        have d1 : decide (((z % 30 : Nat) : Int) < (z : Int) % 30) = false := by simp
        go_wp2_with fail
        go_meet
        case rel => exact ⟨D, H, rfl, rfl, hD, hDne, hDv, by omega, hH, hHne, hHv, by omega, rfl⟩
  case rest =>
  clear hD hDne hDv hDl hH hHne hHv hHl
  obtain ⟨D, H, rfl, rfl, hD, hDne, hDv, hDl, hH, hHne, hHv, hHl, rfl⟩ := hcut
  go_upto_region 27 with fail
  go_cut [14] (fun s wx => s = .bool (xmlB (x : Int)) ∧ wx = wc)
  case first =>
   as_aux_lemma =>
    have : (x : Int) = 9 ∨ (x : Int) = 10 ∨ (x : Int) = 13 ∨ ((x : Int) ≤ 31 ∧ ¬ (x : Int) = 9 ∧ ¬ (x : Int) = 10 ∧ ¬ (x : Int) = 13) ∨ (32 ≤ (x : Int) ∧ (x : Int) ≤ 55295) ∨ (55296 ≤ (x : Int) ∧ (x : Int) ≤ 57343) ∨ (57344 ≤ (x : Int) ∧ (x : Int) ≤ 65533) ∨ (65534 ≤ (x : Int) ∧ (x : Int) ≤ 65535) ∨ (65536 ≤ (x : Int) ∧ (x : Int) ≤ 1114111) ∨ 1114112 ≤ (x : Int) := by omega
    rcases this with h | h | h | h | h | h | h | h | h | h
    · have e9 : ((x : Int) == 9) = true := by simp; omega
      have e10 : ((x : Int) == 10) = false := by simp; omega
      have e13 : ((x : Int) == 13) = false := by simp; omega
      have g32 : decide (32 ≤ (x : Int)) = false := by simp; omega
      have g1 : decide ((x : Int) < 55296) = true := by simp; omega
      have g2 : decide (57343 < (x : Int)) = false := by simp; omega
      have g3 : decide ((x : Int) < 65534) = true := by simp; omega
      have g4 : decide (65535 < (x : Int)) = false := by simp; omega
      have g5 : decide ((x : Int) < 1114112) = true := by simp; omega
      have hg : xmlB (x : Int) = true := by unfold xmlB; simp; omega
      have hg : Hid (xmlB (x : Int) = true) := hg
      clear h
      go_wp2_with fail
      go_meet
      case rel => exact ⟨by rw [hg.out], rfl⟩
    · have e9 : ((x : Int) == 9) = false := by simp; omega
      have e10 : ((x : Int) == 10) = true := by simp; omega
      have e13 : ((x : Int) == 13) = false := by simp; omega
      have g32 : decide (32 ≤ (x : Int)) = false := by simp; omega
      have g1 : decide ((x : Int) < 55296) = true := by simp; omega
      have g2 : decide (57343 < (x : Int)) = false := by simp; omega
      have g3 : decide ((x : Int) < 65534) = true := by simp; omega
      have g4 : decide (65535 < (x : Int)) = false := by simp; omega
      have g5 : decide ((x : Int) < 1114112) = true := by simp; omega
      have hg : xmlB (x : Int) = true := by unfold xmlB; simp; omega
      have hg : Hid (xmlB (x : Int) = true) := hg
      clear h
      go_wp2_with fail
      go_meet
      case rel => exact ⟨by rw [hg.out], rfl⟩
    · have e9 : ((x : Int) == 9) = false := by simp; omega
      have e10 : ((x : Int) == 10) = false := by simp; omega
      have e13 : ((x : Int) == 13) = true := by simp; omega
      have g32 : decide (32 ≤ (x : Int)) = false := by simp; omega
      have g1 : decide ((x : Int) < 55296) = true := by simp; omega
      have g2 : decide (57343 < (x : Int)) = false := by simp; omega
      have g3 : decide ((x : Int) < 65534) = true := by simp; omega
      have g4 : decide (65535 < (x : Int)) = false := by simp; omega
      have g5 : decide ((x : Int) < 1114112) = true := by simp; omega
      have hg : xmlB (x : Int) = true := by unfold xmlB; simp; omega
      have hg : Hid (xmlB (x : Int) = true) := hg
      clear h
      go_wp2_with fail
      go_meet
      case rel => exact ⟨by rw [hg.out], rfl⟩
    · have e9 : ((x : Int) == 9) = false := by simp; omega
      have e10 : ((x : Int) == 10) = false := by simp; omega
      have e13 : ((x : Int) == 13) = false := by simp; omega
      have g32 : decide (32 ≤ (x : Int)) = false := by simp; omega
      have g1 : decide ((x : Int) < 55296) = true := by simp; omega
      have g2 : decide (57343 < (x : Int)) = false := by simp; omega
      have g3 : decide ((x : Int) < 65534) = true := by simp; omega
      have g4 : decide (65535 < (x : Int)) = false := by simp; omega
      have g5 : decide ((x : Int) < 1114112) = true := by simp; omega
      have hg : xmlB (x : Int) = false := by unfold xmlB; simp; omega
      have hg : Hid (xmlB (x : Int) = false) := hg
      clear h
      go_wp2_with fail
      go_meet
      case rel => exact ⟨by rw [hg.out], rfl⟩
    · have e9 : ((x : Int) == 9) = false := by simp; omega
      have e10 : ((x : Int) == 10) = false := by simp; omega
      have e13 : ((x : Int) == 13) = false := by simp; omega
      have g32 : decide (32 ≤ (x : Int)) = true := by simp; omega
      have g1 : decide ((x : Int) < 55296) = true := by simp; omega
      have g2 : decide (57343 < (x : Int)) = false := by simp; omega
      have g3 : decide ((x : Int) < 65534) = true := by simp; omega
      have g4 : decide (65535 < (x : Int)) = false := by simp; omega
      have g5 : decide ((x : Int) < 1114112) = true := by simp; omega
      have hg : xmlB (x : Int) = true := by unfold xmlB; simp; omega
      have hg : Hid (xmlB (x : Int) = true) := hg
      clear h
      go_wp2_with fail
      go_meet
      case rel => exact ⟨by rw [hg.out], rfl⟩
    · have e9 : ((x : Int) == 9) = false := by simp; omega
      have e10 : ((x : Int) == 10) = false := by simp; omega
      have e13 : ((x : Int) == 13) = false := by simp; omega
      have g32 : decide (32 ≤ (x : Int)) = true := by simp; omega
      have g1 : decide ((x : Int) < 55296) = false := by simp; omega
      have g2 : decide (57343 < (x : Int)) = false := by simp; omega
      have g3 : decide ((x : Int) < 65534) = true := by simp; omega
      have g4 : decide (65535 < (x : Int)) = false := by simp; omega
      have g5 : decide ((x : Int) < 1114112) = true := by simp; omega
      have hg : xmlB (x : Int) = false := by unfold xmlB; simp; omega
      have hg : Hid (xmlB (x : Int) = false) := hg
      clear h
      go_wp2_with fail
      go_meet
      case rel => exact ⟨by rw [hg.out], rfl⟩
    · have e9 : ((x : Int) == 9) = false := by simp; omega
      have e10 : ((x : Int) == 10) = false := by simp; omega
      have e13 : ((x : Int) == 13) = false := by simp; omega
      have g32 : decide (32 ≤ (x : Int)) = true := by simp; omega
      have g1 : decide ((x : Int) < 55296) = false := by simp; omega
      have g2 : decide (57343 < (x : Int)) = true := by simp; omega
      have g3 : decide ((x : Int) < 65534) = true := by simp; omega
      have g4 : decide (65535 < (x : Int)) = false := by simp; omega
      have g5 : decide ((x : Int) < 1114112) = true := by simp; omega
      have hg : xmlB (x : Int) = true := by unfold xmlB; simp; omega
      have hg : Hid (xmlB (x : Int) = true) := hg
      clear h
      go_wp2_with fail
      go_meet
      case rel => exact ⟨by rw [hg.out], rfl⟩
    · have e9 : ((x : Int) == 9) = false := by simp; omega
      have e10 : ((x : Int) == 10) = false := by simp; omega
      have e13 : ((x : Int) == 13) = false := by simp; omega
      have g32 : decide (32 ≤ (x : Int)) = true := by simp; omega
      have g1 : decide ((x : Int) < 55296) = false := by simp; omega
      have g2 : decide (57343 < (x : Int)) = true := by simp; omega
      have g3 : decide ((x : Int) < 65534) = false := by simp; omega
      have g4 : decide (65535 < (x : Int)) = false := by simp; omega
      have g5 : decide ((x : Int) < 1114112) = true := by simp; omega
      have hg : xmlB (x : Int) = false := by unfold xmlB; simp; omega
      have hg : Hid (xmlB (x : Int) = false) := hg
      clear h
      go_wp2_with fail
      go_meet
      case rel => exact ⟨by rw [hg.out], rfl⟩
    · have e9 : ((x : Int) == 9) = false := by simp; omega
      have e10 : ((x : Int) == 10) = false := by simp; omega
      have e13 : ((x : Int) == 13) = false := by simp; omega
      have g32 : decide (32 ≤ (x : Int)) = true := by simp; omega
      have g1 : decide ((x : Int) < 55296) = false := by simp; omega
      have g2 : decide (57343 < (x : Int)) = true := by simp; omega
      have g3 : decide ((x : Int) < 65534) = false := by simp; omega
      have g4 : decide (65535 < (x : Int)) = true := by simp; omega
      have g5 : decide ((x : Int) < 1114112) = true := by simp; omega
      have hg : xmlB (x : Int) = true := by unfold xmlB; simp; omega
      have hg : Hid (xmlB (x : Int) = true) := hg
      clear h
      go_wp2_with fail
      go_meet
      case rel => exact ⟨by rw [hg.out], rfl⟩
    · have e9 : ((x : Int) == 9) = false := by simp; omega
      have e10 : ((x : Int) == 10) = false := by simp; omega
      have e13 : ((x : Int) == 13) = false := by simp; omega
      have g32 : decide (32 ≤ (x : Int)) = true := by simp; omega
      have g1 : decide ((x : Int) < 55296) = false := by simp; omega
      have g2 : decide (57343 < (x : Int)) = true := by simp; omega
      have g3 : decide ((x : Int) < 65534) = false := by simp; omega
      have g4 : decide (65535 < (x : Int)) = true := by simp; omega
      have g5 : decide ((x : Int) < 1114112) = false := by simp; omega
      have hg : xmlB (x : Int) = false := by unfold xmlB; simp; omega
      have hg : Hid (xmlB (x : Int) = false) := hg
      clear h
      go_wp2_with fail
      go_meet
      case rel => exact ⟨by rw [hg.out], rfl⟩
  case rest =>
  obtain ⟨rfl, rfl⟩ := hcut
  obtain ⟨pp, cp, hu7⟩ := hB.shape
  subst hu7
  have zD : (sOf D).size = D.length := sOf_size D
  have zH : (sOf H).size = H.length := sOf_size H
  have zf : (sOf fr).size = fr.length := sOf_size fr
  have S2 := sOf_nil
  have hi : (x : Int) < 1200000 := by omega
  have hi0 : (0 : Int) ≤ (x : Int) := by omega
  go_wp2_with fail
  go_loopw [15] (fun i wr => ∃ k : Nat, k ≤ 2 ∧ i = .int .i64 (k : Int) ∧ Buf wr w.heap.size (.slice pp fr.length cp) fr ∧ Below w.heap.size w wr) (fun i _ => 2 - (intOf i).toNat)
  case atStart => exact ⟨0, by omega, rfl, hB, HB⟩
  case round =>
    clear hB HB
    obtain ⟨k, hk, rfl, hB, HB⟩ := hrel
    have hcv := hB.conv
    have y1 : 2 + D.length ≤ 9223372036854775807 := by omega
    have y2 : 2 + D.length + 1 ≤ 9223372036854775807 := by omega
    have : k = 0 ∨ k = 1 ∨ k = 2 := by omega
    rcases this with rfl | rfl | rfl
    · have x1 : 2 + D.length ≤ 9223372036854775807 := by omega
      have x2 : 2 + D.length + 1 ≤ 9223372036854775807 := by omega
      have x3 : fr.length + (2 + D.length + 1) ≤ 9223372036854775807 := by omega
      have x4 : fr.length + (2 + D.length + 1) + 5 ≤ 9223372036854775807 := by omega
      have zU : ((sOf fr ++ (({ data := #[38, 35] } ++ sOf D) ++ { data := #[59] })) ++ { data := #[122, 38, 108, 116, 59] } : ByteArray).size ≤ 35184372088832 := by
        rw [ByteArray.size_append, ByteArray.size_append, ByteArray.size_append, ByteArray.size_append, zD, zf]
        show fr.length + (2 + D.length + 1) + 5 ≤ _
        omega
      cases hg : xmlB (x : Int)
      · have F : uneN ((sOf fr ++ (({ data := #[38, 35] } ++ sOf D) ++ { data := #[59] })) ++ { data := #[122, 38, 108, 116, 59] }) = ([], 22, fr.length) := dec_no fr D x hfr.out hD.out hDne.out hDv.out hg
        go_wp2_with (first | (go_at_call 14; refine (Unescape_any _ _ zU).mono ?_; rintro e w5 ⟨rfl, hb5⟩) | (go_at_call 9; go_in))
        go_roundw
        case rel => exact ⟨1, by omega, by go_num, hB.below hb5, HB.trans (hb5.mono HB.size)⟩
        case measure => simp [intOf]
      · have F : uneN ((sOf fr ++ (({ data := #[38, 35] } ++ sOf D) ++ { data := #[59] })) ++ { data := #[122, 38, 108, 116, 59] }) = (fr ++ encN x ++ [122, 60], 0, 0) := dec_yes fr D x hfr.out hD.out hDne.out hDv.out hg
        have hcr := fun w => conv_rune x hg w
        have hEl := (encN_ne x).2
        generalize encN x = En at F hcr hEl
        have zE : (sOf En).size = En.length := sOf_size En
        have x5 : fr.length + En.length ≤ 9223372036854775807 := by omega
        have x6 : fr.length + En.length + 2 ≤ 9223372036854775807 := by omega
        have hsR : sOf fr ++ sOf En ++ { data := #[122, 60] } = sOf (fr ++ En ++ [122, 60]) := by rw [sOf_append, sOf_append]; rfl
        go_wp2_with (first | (go_at_call 14; refine (Unescape_any _ _ zU).mono ?_; rintro e w5 ⟨rfl, hb5⟩; have hcv5 := (hB.below hb5).conv) | (go_at_call 9; go_in))
        go_roundw
        case rel => exact ⟨1, by omega, by go_num, hB.below hb5, HB.trans (hb5.mono HB.size)⟩
        case measure => simp [intOf]
    · have x1 : 3 + H.length ≤ 9223372036854775807 := by omega
      have x2 : 3 + H.length + 1 ≤ 9223372036854775807 := by omega
      have x3 : fr.length + (3 + H.length + 1) ≤ 9223372036854775807 := by omega
      have x4 : fr.length + (3 + H.length + 1) + 5 ≤ 9223372036854775807 := by omega
      have zU : ((sOf fr ++ (({ data := #[38, 35, 120] } ++ sOf H) ++ { data := #[59] })) ++ { data := #[122, 38, 108, 116, 59] } : ByteArray).size ≤ 35184372088832 := by
        rw [ByteArray.size_append, ByteArray.size_append, ByteArray.size_append, ByteArray.size_append, zH, zf]
        show fr.length + (3 + H.length + 1) + 5 ≤ _
        omega
      cases hg : xmlB (x : Int)
      · have F : uneN ((sOf fr ++ (({ data := #[38, 35, 120] } ++ sOf H) ++ { data := #[59] })) ++ { data := #[122, 38, 108, 116, 59] }) = ([], 22, fr.length) := hex_no fr H x hfr.out hH.out hHne.out hHv.out hg
        go_wp2_with (first | (go_at_call 14; refine (Unescape_any _ _ zU).mono ?_; rintro e w5 ⟨rfl, hb5⟩) | (go_at_call 9; go_in))
        go_roundw
        case rel => exact ⟨2, by omega, by go_num, hB.below hb5, HB.trans (hb5.mono HB.size)⟩
        case measure => simp [intOf]
      · have F : uneN ((sOf fr ++ (({ data := #[38, 35, 120] } ++ sOf H) ++ { data := #[59] })) ++ { data := #[122, 38, 108, 116, 59] }) = (fr ++ encN x ++ [122, 60], 0, 0) := hex_yes fr H x hfr.out hH.out hHne.out hHv.out hg
        have hcr := fun w => conv_rune x hg w
        have hEl := (encN_ne x).2
        generalize encN x = En at F hcr hEl
        have zE : (sOf En).size = En.length := sOf_size En
        have x5 : fr.length + En.length ≤ 9223372036854775807 := by omega
        have x6 : fr.length + En.length + 2 ≤ 9223372036854775807 := by omega
        have hsR : sOf fr ++ sOf En ++ { data := #[122, 60] } = sOf (fr ++ En ++ [122, 60]) := by rw [sOf_append, sOf_append]; rfl
        go_wp2_with (first | (go_at_call 14; refine (Unescape_any _ _ zU).mono ?_; rintro e w5 ⟨rfl, hb5⟩; have hcv5 := (hB.below hb5).conv) | (go_at_call 9; go_in))
        go_roundw
        case rel => exact ⟨2, by omega, by go_num, hB.below hb5, HB.trans (hb5.mono HB.size)⟩
        case measure => simp [intOf]
    · go_wp2_with fail
      go_ret
      exact ⟨rfl, HB⟩
end Go.Proofs.Ythiilkmnbjgoaaa
