/- The walk of TextPoints. -/
import Derived.Test.YthiilkmnbjgoaaaPtsRow
import Derived.Deep.DeepCutAuto
namespace Go.Proofs.Ythiilkmnbjgoaaa
open Go.ChangeShapes Go.WideShapes Go.ChangeAt Go.RowKit

/-- 'string([]byte{..})'. -/
theorem conv_lit (W : World) (g n : Nat) (xs : List Int) (hg : W.heap.size = g) (hn : xs.length = n) :
    (convert 22 9 (.slice (some ⟨g, 0, none⟩) n n)).run Try.prog (W.alloc (.cells (xs.map (Value.int .u8)).toArray 5)) = .ok (.string (strOfNums xs)) (W.alloc (.cells (xs.map (Value.int .u8)).toArray 5)) := by
  subst hg
  refine run_convert_bytes_arg _ 22 5 Try.underlying22 Try.underlying5 W.heap.size 0 n n xs hn (fun i hi => ?_) 9 Try.underlying9
  have h2 : i < xs.length := by omega
  have : (W.alloc (.cells (xs.map (Value.int .u8)).toArray 5)).heap[W.heap.size]? = some (.cells (xs.map (Value.int .u8)).toArray 5) := heap_alloc_new W _
  rw [Nat.zero_add]
  unfold World.cell?
  rw [this]
  simp [h2, List.getD]
def rK (n : Int) (k : Nat) : List Int := if k = 0 then r0 n else if k = 1 then r1 n else if k = 2 then r2 n else r3 n
def leastF (k : Nat) : Int := if k = 0 then 0 else if k = 1 then 128 else if k = 2 then 2048 else 65536
def mostF (k : Nat) : Int := if k = 0 then 127 else if k = 1 then 2047 else if k = 2 then 65535 else 1114111
/-- The law's three tables. -/
structure PC (w : World) (n : Int) (wr : World) : Prop where
  below : Below w.heap.size w wr
  size : w.heap.size + 7 ≤ wr.heap.size
  a : ∀ k, k < 4 → wr.cell? ⟨w.heap.size + 1 + 1 + 1 + 1, k, none⟩ = some (.string (strOfNums (rK n k)))
  b : ∀ k, k < 4 → wr.cell? ⟨w.heap.size + 1 + 1 + 1 + 1 + 1, k, none⟩ = some (.int .i64 (leastF k))
  c : ∀ k, k < 4 → wr.cell? ⟨w.heap.size + 1 + 1 + 1 + 1 + 1 + 1, k, none⟩ = some (.int .i64 (mostF k))
theorem PC.on {w : World} {n : Int} {wr w1 w2 : World} (h : PC w n wr) (b1 : Below wr.heap.size wr w1) (b2 : Below w1.heap.size w1 w2) : PC w n w2 := by
  have b : Below wr.heap.size wr w2 := b1.trans (b2.mono b1.size)
  have hs := h.size
  exact ⟨h.below.trans (b.mono h.below.size), Nat.le_trans hs b.size,
    fun k hk => (b.cell (p := ⟨w.heap.size + 1 + 1 + 1 + 1, k, none⟩) (by show w.heap.size + 1 + 1 + 1 + 1 < _; omega)).trans (h.a k hk),
    fun k hk => (b.cell (p := ⟨w.heap.size + 1 + 1 + 1 + 1 + 1, k, none⟩) (by show w.heap.size + 1 + 1 + 1 + 1 + 1 < _; omega)).trans (h.b k hk),
    fun k hk => (b.cell (p := ⟨w.heap.size + 1 + 1 + 1 + 1 + 1 + 1, k, none⟩) (by show w.heap.size + 1 + 1 + 1 + 1 + 1 + 1 < _; omega)).trans (h.c k hk)⟩
theorem rK_len (n : Int) (k : Nat) (hk : k < 4) : (rK n k).length = k + 1 := by
  have : k = 0 ∨ k = 1 ∨ k = 2 ∨ k = 3 := by omega
  rcases this with rfl | rfl | rfl | rfl <;> rfl
def goodB (x l : Int) : Bool := decide (l ≤ x) && (decide (x < 55296) || decide (57343 < x))
def xmP (x : Int) : Bool := decide (x = 9) || decide (x = 10) || decide (x = 13) || (decide (32 ≤ x) && !decide (x = 65534) && !decide (x = 65535))
theorem xmP_xml (x : Int) (h0 : 0 ≤ x) (h1 : x ≤ 1114111) (hg : x < 55296 ∨ 57343 < x) : xmlB x.toNat = xmP x := by
  unfold xmlB xmP
  rw [Bool.eq_iff_iff]
  simp
  omega
theorem pts_yes (A : Nat) (hA : A ≤ 7) (n : Int) (h0 : 0 ≤ n) (h1 : n ≤ 1114111) (k : Nat) (hk : k < 4) (hm : n ≤ mostF k) (hg : goodB n (leastF k) = true) :
    seqN ((ptS A (rK n k)).extract A (ptS A (rK n k)).size) = (n.toNat, (rK n k).length) ∧ (n < 55296 ∨ 57343 < n) := by
  have : k = 0 ∨ k = 1 ∨ k = 2 ∨ k = 3 := by omega
  unfold goodB at hg
  rcases this with rfl | rfl | rfl | rfl
  all_goals simp [leastF, mostF] at hg hm
  · exact ⟨q0 A hA n h0 h1 (by omega), by omega⟩
  · exact ⟨q1 A hA n h0 h1 (by omega) (by omega), by omega⟩
  · exact ⟨q2 A hA n h0 h1 (by omega) (by omega) (by omega), by omega⟩
  · exact ⟨q3 A hA n h0 h1 (by omega), by omega⟩
theorem pts_no (A : Nat) (hA : A ≤ 7) (n : Int) (h0 : 0 ≤ n) (h1 : n ≤ 1114111) (k : Nat) (hk : k < 4) (hm : n ≤ mostF k) (hg : goodB n (leastF k) = false) :
    seqN ((ptS A (rK n k)).extract A (ptS A (rK n k)).size) = (0, 0) := by
  have : k = 0 ∨ k = 1 ∨ k = 2 ∨ k = 3 := by omega
  unfold goodB at hg
  rcases this with rfl | rfl | rfl | rfl
  all_goals simp [leastF, mostF] at hg hm
  · omega
  · exact q1_no A hA n h0 h1 (by omega)
  · exact q2_no A hA n h0 h1 (by omega) (by omega)
  · exact q3_no A hA n h0 h1 (by omega)
set_option maxRecDepth 100000 in
set_option maxHeartbeats 40000000 in
theorem points_walk (n0 ah0 : Int) (hn : -9223372036854775808 ≤ n0) (ha : -9223372036854775808 ≤ ah0) (hn2 : n0 ≤ 9223372036854775807) (ha2 : ah0 ≤ 9223372036854775807) (w : World) :
    Calls Try.prog 3 #[.int .i64 n0, .int .i64 ah0] w fun e w' => e = .returned (.bool true) ∧ Below w.heap.size w w' := by
  have cv1 := fun (W : World) (g : Nat) (a : Int) (hg : W.heap.size = g) => conv_lit W g 1 [a] hg rfl
  have cv2 := fun (W : World) (g : Nat) (a b : Int) (hg : W.heap.size = g) => conv_lit W g 2 [a, b] hg rfl
  have cv3 := fun (W : World) (g : Nat) (a b c : Int) (hg : W.heap.size = g) => conv_lit W g 3 [a, b, c] hg rfl
  have cv4 := fun (W : World) (g : Nat) (a b c d : Int) (hg : W.heap.size = g) => conv_lit W g 4 [a, b, c, d] hg rfl
  simp only [List.map_cons, List.map_nil] at cv1 cv2 cv3 cv4
  go_enter Try.func3, Try.ntmps3
  go_upto_if 18 with fail
  go_cut [0] (fun s wx => (∃ n : Int, 0 ≤ n ∧ n ≤ 9223372036854775807 ∧ s = .int .i64 n) ∧ wx = w)
  case first =>
    by_cases h : n0 < 0
    · have d : decide (n0 < 0) = true := by simp [h]
      go_wp2_with fail
      go_meet
      case rel => exact ⟨⟨-(n0 + 1), by omega, by omega, by go_num⟩, rfl⟩
    · have d : decide (n0 < 0) = false := by simp; omega
      go_wp2_with fail
      go_meet
      case rel => exact ⟨⟨n0, by omega, by omega, rfl⟩, rfl⟩
  case rest =>
  obtain ⟨⟨n1, hn0, hn1, rfl⟩, rfl⟩ := hcut
  go_upto_if 25 with fail
  go_cut [0, 1] (fun s s1 wx => (∃ n : Int, 0 ≤ n ∧ n ≤ 1114111 ∧ s = .int .i64 n) ∧ (∃ n : Int, 0 ≤ n ∧ n ≤ 9223372036854775807 ∧ s1 = .int .i64 n) ∧ wx = wc)
  case first =>
    by_cases h : ah0 < 0
    · have d : decide (ah0 < 0) = true := by simp [h]
      go_wp2_with fail
      go_meet
      case rel => exact ⟨⟨n1 % 1114112, by omega, by omega, rfl⟩, ⟨-(ah0 + 1), by omega, by omega, by go_num⟩, rfl⟩
    · have d : decide (ah0 < 0) = false := by simp; omega
      go_wp2_with fail
      go_meet
      case rel => exact ⟨⟨n1 % 1114112, by omega, by omega, rfl⟩, ⟨ah0, by omega, by omega, rfl⟩, rfl⟩
  case rest =>
  clear hn0 hn1
  obtain ⟨⟨n, hx0, hx1, rfl⟩, ⟨ah, ha0, ha1, rfl⟩, rfl⟩ := hcut
  clear hn ha hn2 ha2
  obtain ⟨A, hAd⟩ : ∃ A, A = (ah % 8).toNat := ⟨_, rfl⟩
  have hA : A ≤ 7 := by omega
  have hA2 : ah % 8 ≤ 7 := by omega
  go_wp2_with fail
  clear cv1 cv2 cv3 cv4
  go_loopw [9] (fun i wr => ∃ k : Nat, k ≤ 4 ∧ i = .int .i64 k ∧ PC wc n wr) (fun i _ => 4 - (intOf i).toNat)
  case atStart =>
    refine ⟨0, by omega, rfl, ?_⟩
    have B : Below wc.heap.size wc wc := Below.refl _ _
    refine ⟨?_, by simp, ?_, ?_, ?_⟩
    · exact ((((((B.alloc (by simp) _).alloc (by simp) _).alloc (by simp; omega) _).alloc (by simp; omega) _).alloc (by simp; omega) _).alloc (by simp; omega) _).alloc (by simp; omega) _
    all_goals
      intro k hk
      have : k = 0 ∨ k = 1 ∨ k = 2 ∨ k = 3 := by omega
      rcases this with rfl | rfl | rfl | rfl <;> simp [go_sem, rK, leastF, mostF]
  case round =>
    obtain ⟨k, hk, rfl, hp⟩ := hrel
    by_cases hk4 : k < 4
    · have ca := hp.a k hk4
      have cb := hp.b k hk4
      have cc := hp.c k hk4
      by_cases hm : n ≤ mostF k
      · have gm : decide (mostF k < n) = false := by simp; omega
        go_upto_region 14 with fail
        go_cut [10] (fun s wx => s = .bool (goodB n (leastF k)) ∧ wx = wr)
        case first =>
          cases gl : decide (leastF k ≤ n)
          · go_wp2_with fail
            go_meet
            case rel => exact ⟨by unfold goodB; simp [gl], rfl⟩
          · cases g1 : decide (n < 55296)
            · go_wp2_with fail
              go_meet
              case rel => exact ⟨by unfold goodB; rw [gl, g1]; simp, rfl⟩
            · go_wp2_with fail
              go_meet
              case rel => exact ⟨by unfold goodB; rw [gl, g1]; simp, rfl⟩
        case rest =>
        obtain ⟨rfl, rfl⟩ := hcut
        go_upto_region 15 with fail
        go_cut [11] (fun s wx => s = .bool (xmP n) ∧ wx = wc)
        case first =>
          cases e9 : (n == 9)
          case true =>
            go_wp2_with fail
            go_meet
            case rel => exact ⟨congrArg Value.bool (by unfold xmP; simp at e9; simp <;> omega), rfl⟩
          cases e10 : (n == 10)
          case true =>
            go_wp2_with fail
            go_meet
            case rel => exact ⟨congrArg Value.bool (by unfold xmP; simp at e9 e10; simp <;> omega), rfl⟩
          cases e13 : (n == 13)
          case true =>
            go_wp2_with fail
            go_meet
            case rel => exact ⟨congrArg Value.bool (by unfold xmP; simp at e9 e10 e13; simp <;> omega), rfl⟩
          cases g32 : decide (32 ≤ n)
          case false =>
            go_wp2_with fail
            go_meet
            case rel => exact ⟨congrArg Value.bool (by unfold xmP; simp at e9 e10 e13 g32; simp <;> omega), rfl⟩
          cases e4 : (n == 65534)
          case true =>
            have e4' : (n != 65534) = false := by simp [bne, e4]
            go_wp2_with fail
            go_meet
            case rel => exact ⟨congrArg Value.bool (by unfold xmP; simp at e9 e10 e13 g32 e4; simp <;> omega), rfl⟩
          case false =>
            have e4' : (n != 65534) = true := by simp [bne, e4]
            go_wp2_with fail
            go_meet
            case rel => exact ⟨congrArg Value.bool (by unfold xmP; simp at e9 e10 e13 g32 e4; rw [Bool.eq_iff_iff]; simp; omega), rfl⟩
        case rest =>
        obtain ⟨rfl, rfl⟩ := hcut
        have P : (padS A).size = A := padS_size A hA
        have Z : (ptS A (rK n k)).size = A + (k + 1) + 1 := by rw [ptS_size A (rK n k) hA, rK_len n k hk4]
        have S0 : (strOfNums (rK n k)).size = k + 1 := by rw [strOfNums_size, rK_len n k hk4]
        have Z1 : (ah % 8).toNat + (k + 1) ≤ 9223372036854775807 := by omega
        have Z2 : (ah % 8).toNat + (k + 1) + 1 ≤ 9223372036854775807 := by omega
        unfold ptS padS at Z
        unfold padS at P
        rw [hAd] at P Z
        cases hg : goodB n (leastF k)
        · have F := pts_bad A (rK n k) hA (pts_no A hA n hx0 hx1 k hk4 hm hg)
          obtain ⟨F1, F2⟩ := F
          unfold ptS padS at F1 F2
          rw [hAd] at F1 F2
          go_wp2_with (first | (go_at_call 7; refine (Check_all _ _ (by rw [Z]; omega)).mono ?_; rintro e w1 ⟨rfl, hb1⟩) | (go_at_call 8; refine (Chars_all _ _ (by rw [Z]; omega)).mono ?_; rintro e w2 ⟨rfl, hb2⟩) | (go_at_call 9; go_in))
          go_roundw
          case rel => exact ⟨k + 1, by omega, by go_num, hp.on hb1 hb2⟩
          case measure => simp [intOf]; omega
        · obtain ⟨hq, hg'⟩ := pts_yes A hA n hx0 hx1 k hk4 hm hg
          cases hx : xmP n
          · have F := pts_odd A (rK n k) hA _ (by rw [rK_len n k hk4]; omega) hq (by rw [xmP_xml _ hx0 hx1 hg', hx])
            clear hq hg'
            obtain ⟨F1, F2⟩ := F
            unfold ptS padS at F1 F2
            rw [hAd] at F1 F2
            go_wp2_with (first | (go_at_call 7; refine (Check_all _ _ (by rw [Z]; omega)).mono ?_; rintro e w1 ⟨rfl, hb1⟩) | (go_at_call 8; refine (Chars_all _ _ (by rw [Z]; omega)).mono ?_; rintro e w2 ⟨rfl, hb2⟩) | (go_at_call 9; go_in))
            go_roundw
            case rel => exact ⟨k + 1, by omega, by go_num, hp.on hb1 hb2⟩
            case measure => simp [intOf]; omega
          · have F := pts_good A (rK n k) hA _ (by rw [rK_len n k hk4]; omega) hq (by rw [xmP_xml _ hx0 hx1 hg', hx])
            clear hq hg'
            obtain ⟨F1, F2⟩ := F
            unfold ptS padS at F1 F2
            rw [hAd] at F1 F2
            go_wp2_with (first | (go_at_call 7; refine (Check_all _ _ (by rw [Z]; omega)).mono ?_; rintro e w1 ⟨rfl, hb1⟩) | (go_at_call 8; refine (Chars_all _ _ (by rw [Z]; omega)).mono ?_; rintro e w2 ⟨rfl, hb2⟩) | (go_at_call 9; go_in))
            go_roundw
            case rel => exact ⟨k + 1, by omega, by go_num, hp.on hb1 hb2⟩
            case measure => simp [intOf]; omega
      · have gm : decide (mostF k < n) = true := by simp; omega
        go_wp2_with fail
        go_roundw
        case rel => exact ⟨k + 1, by omega, by go_num, hp⟩
        case measure => simp [intOf]; omega
    · obtain rfl : k = 4 := by omega
      go_wp2_with fail
      go_ret
      exact ⟨rfl, hp.below⟩
end Go.Proofs.Ythiilkmnbjgoaaa
