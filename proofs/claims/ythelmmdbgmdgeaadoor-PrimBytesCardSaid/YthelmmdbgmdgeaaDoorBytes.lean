/- The law PrimBytes, walked. -/
import Derived.Test.YthelmmdbgmdgeaaDoorBytesAll
import Derived.Deep.RegionHeld
import Derived.Lib.SlBytesConst
namespace Go.Proofs.YthelmmdbgmdgeaaDoor
open Go.ChangeShapes Go.WideShapes Go.ChangeAt Go.RowKit

theorem Arg.below {w w' : World} {a : Option Addr} {L : Nat} {bi : Nat → Int} (h : Arg w a L bi) (hb : Below w.heap.size w w') : Arg w' a L bi :=
  ⟨h.nil, fun ad e j hj => (hb.cell (p := ad.add j) (World.block_lt_of_cell? w _ (h.cell ad e j hj))).trans (h.cell ad e j hj)⟩
theorem heap_two (w : World) (o1 o2 : Obj) : ((w.alloc o1).alloc o2).heap[w.heap.size + 1]? = some o2 := by
  have := heap_alloc_new (w.alloc o1) o2
  simpa using this
theorem conv_arg {w : World} {a : Option Addr} {L C : Nat} {bi : Nat → Int} (h : Arg w a L bi) (hbi : ∀ j, 0 ≤ bi j ∧ bi j ≤ 255) : (convert 30 9 (.slice a L C)).run Tryd.prog w = .ok (.string (textF bi 0 L)) w := by
  cases a with
  | none =>
    obtain rfl := h.nil rfl
    exact run_convert_bytes_nil w 30 5 Tryd.underlying30 Tryd.underlying5 0 C 9 Tryd.underlying9
  | some ad =>
    have := run_convert_bytes_back w 30 9 5 ad C ((List.range L).map fun j => UInt8.ofNat (bi j).toNat) Tryd.underlying30 Tryd.underlying5 Tryd.underlying9 (fun j hj => by
      have hj2 : j < L := by simpa using hj
      rw [h.cell ad rfl j hj2]
      have := hbi j
      simp
      omega)
    simp only [List.length_map, List.length_range] at this
    rw [this]
    unfold textF strOfNums
    simp
/-- The law's buffer: what came in, and three marks behind it. -/
def fM (L : Nat) (bi : Nat → Int) (j : Nat) : Int := if j < L then bi j else if j < L + 3 then 77 + ((j - L : Nat) : Int) else 0
theorem fM_of (L : Nat) (bi : Nat → Int) (j : Nat) (c : Prop) [Decidable c] : (if j < L then (if j < L then bi j else 0) else if j < L + 3 then 77 + ((j - L : Nat) : Int) else if c then (if j < L then bi j else 0) else 0) = fM L bi j := by
  unfold fM
  by_cases h1 : j < L <;> simp [h1]
theorem box7 {w w' : World} {v0 v1 v2 v3 v4 v5 v6 : Value} (B : Below (w.heap.size + 1) (w.alloc (.cells #[v0, v1, v2, v3, v4, v5, v6] 40)) w') :
    w'.cell? ⟨w.heap.size, 0, none⟩ = some v0 ∧ w'.cell? ⟨w.heap.size, 1, none⟩ = some v1 ∧ w'.cell? ⟨w.heap.size, 2, none⟩ = some v2 ∧ w'.cell? ⟨w.heap.size, 3, none⟩ = some v3 ∧
    w'.cell? ⟨w.heap.size, 4, none⟩ = some v4 ∧ w'.cell? ⟨w.heap.size, 5, none⟩ = some v5 ∧ w'.cell? ⟨w.heap.size, 6, none⟩ = some v6 := by
  refine ⟨?_, ?_, ?_, ?_, ?_, ?_, ?_⟩
  · exact (B.cell (p := ⟨w.heap.size, 0, none⟩) (by simp)).trans (by simp)
  · exact (B.cell (p := ⟨w.heap.size, 1, none⟩) (by simp)).trans (by simp)
  · exact (B.cell (p := ⟨w.heap.size, 2, none⟩) (by simp)).trans (by simp)
  · exact (B.cell (p := ⟨w.heap.size, 3, none⟩) (by simp)).trans (by simp)
  · exact (B.cell (p := ⟨w.heap.size, 4, none⟩) (by simp)).trans (by simp)
  · exact (B.cell (p := ⟨w.heap.size, 5, none⟩) (by simp)).trans (by simp)
  · exact (B.cell (p := ⟨w.heap.size, 6, none⟩) (by simp)).trans (by simp)
theorem boxS {w w' : World} {v0 v2 v6 : Value} {at' p o x : Int} (B : Below (w.heap.size + 1) (w.alloc (.cells #[v0, .int .i64 at', v2, .int .i64 p, .int .i64 o, .int .u64 x, v6] 40)) w') :
    w'.cell? ⟨w.heap.size, 1, none⟩ = some (.int .i64 at') ∧ w'.cell? ⟨w.heap.size, 3, none⟩ = some (.int .i64 p) ∧ w'.cell? ⟨w.heap.size, 4, none⟩ = some (.int .i64 o) ∧ w'.cell? ⟨w.heap.size, 5, none⟩ = some (.int .u64 x) := by
  obtain ⟨x0, x1, x2, x3, x4, x5, x6⟩ := box7 B
  exact ⟨x1, x3, x4, x5⟩
theorem boxT {w w' : World} {v0 v3 v4 v5 : Value} {at' n : Int} {t : ByteArray} (B : Below (w.heap.size + 1) (w.alloc (.cells #[v0, .int .i64 at', .int .i64 n, v3, v4, v5, .string t] 40)) w') :
    w'.cell? ⟨w.heap.size, 1, none⟩ = some (.int .i64 at') ∧ w'.cell? ⟨w.heap.size, 2, none⟩ = some (.int .i64 n) ∧ w'.cell? ⟨w.heap.size, 6, none⟩ = some (.string t) := by
  obtain ⟨x0, x1, x2, x3, x4, x5, x6⟩ := box7 B
  exact ⟨x1, x2, x6⟩
theorem GetChars_ab (g : Nat) (w : World) (c0 : w.cell? ⟨g, 0, none⟩ = some (.int .u8 97)) (c1 : w.cell? ⟨g, 1, none⟩ = some (.int .u8 98)) :
    Calls Tryd.prog 24 #[.slice (some ⟨g, 0, none⟩) 2 2, .int .i64 0, .int .i64 2] w fun e w' => e = .returned (.tuple #[.string { data := #[97, 98] }, .int .i64 0]) ∧ w' = w := by
  have hin : inB 2 0 2 = true := inB_yes (by omega)
  have hcv : ∀ c, (convert 30 9 (.slice (some ⟨g, 0, none⟩) 2 c)).run Tryd.prog w = .ok (.string { data := #[97, 98] }) w := fun c =>
    run_convert_bytes_arg w 30 5 Tryd.underlying30 Tryd.underlying5 g 0 2 c [97, 98] rfl (fun i hi => by
      have : i = 0 ∨ i = 1 := by omega
      rcases this with rfl | rfl
      · exact c0
      · exact c1) 9 Tryd.underlying9
  go_enter Tryd.func24, Tryd.ntmps24
  go_wp2_with (go_at_call 35; refine (within_in _ _ _ _ _ _ (by omega) (by omega)).mono ?_; rintro e w1 ⟨rfl, rfl⟩)
  go_ret2
  exact ⟨rfl, rfl⟩
theorem frozen_mark (w : World) : (w.alloc (.cells #[.int .u8 97, .int .u8 98] 5 (2, 3))).frozen? ⟨w.heap.size, 0, none⟩ = false := by
  have := heap_alloc_new w (.cells #[.int .u8 97, .int .u8 98] 5 (2, 3))
  unfold World.frozen?
  simp only [this]
  rfl
theorem conv_same (g cap L : Nat) (f z : Nat → Int) (w : World) (R : w.rowIs g 5 cap (fun j => .int .u8 (f j))) (hf : ∀ j, j < L → f j = z j) (h : L ≤ cap) :
    ∀ c, (convert 30 9 (.slice (some ⟨g, 0, none⟩) L c)).run Tryd.prog w = .ok (.string (textF z 0 L)) w := fun c => by
  rw [text_conv w g cap f R 0 L c (by omega), textF_congr f z L 0 L hf (by omega)]
set_option maxRecDepth 100000 in
set_option maxHeartbeats 8000000 in
theorem bytes_walk (a : Option Addr) (L C : Nat) (at' n p o x : Int) (t : ByteArray) (bi : Nat → Int) (w : World) (h : KT w) (hb : Arg w a L bi) (hbi : ∀ j, 0 ≤ bi j ∧ bi j ≤ 255) (hL : L + 4096 ≤ 140737488355328)
    (hn : n ≤ 9223372036854775807) (hx0 : 0 ≤ x) (hx1 : x < 18446744073709551616) :
    Calls Tryd.prog 6 #[.agg #[.slice a L C, .int .i64 at', .int .i64 n, .int .i64 p, .int .i64 o, .int .u64 x, .string t]] w fun e w' => e = .returned (.bool true) ∧ Below w.heap.size w w' := by
  have hL1 : L ≤ 140737488355328 := by omega
  have HB : Hid (Arg w a L bi) := hb
  clear hb
  go_enter Tryd.func6, Tryd.ntmps6
  go_wp2_with (at_builtin; refine (wpList_append_ex (by rfl) _ _ _ (by rfl) _ _ (by rfl) (by rfl) _ (app_copy _ _ _ _ _ bi ?h0 ?hb hL1) ?hK))
  case h0 => exact heap_two _ _ _
  case hb => exact HB.out.below ((bel1 _ _).alloc (by simp) _)
  case hK =>
  intro v w2 g cap hv B2 R2 hc2 hg2 hm2
  subst hv
  have BX : Below (w.heap.size + 1) (w.alloc (.cells #[.slice a L C, .int .i64 at', .int .i64 n, .int .i64 p, .int .i64 o, .int .u64 x, .string t] 40)) w2 := ((Below.refl _ _).alloc (by simp) _).trans (B2.mono (by omega))
  have gg : w.heap.size < g := by omega
  have gl := R2.lt
  have z2 : w.heap.size < w2.heap.size := by omega
  clear B2 hg2
  go_wp2_with (at_builtin; refine (wpList_append_ex (by rfl) _ _ _ (by rfl) _ _ (by rfl) (by rfl) _ (app_three _ _ _ _ (fun j => if j < L then bi j else 0) _ _ ?hR hc2 ?hs (by omega) hm2) ?hK))
  case hR => exact R2.alloc _
  case hs => exact heap_alloc_new _ _
  case hK =>
  intro v w3 gF capF hv B3 R3 hc3 hg3 hm3
  subst hv
  have RF : w3.rowIs gF 5 capF (fun j => .int .u8 (fM L bi j)) := R3.congr fun j _ => by rw [fM_of]
  have BX3 : Below (w.heap.size + 1) (w.alloc (.cells #[.slice a L C, .int .i64 at', .int .i64 n, .int .i64 p, .int .i64 o, .int .u64 x, .string t] 40)) w3 := (BX.alloc (by omega) _).trans (B3 _ (by omega) (by omega))
  have gF1 : w.heap.size < gF := by omega
  have gF2 := RF.lt
  have lF : L ≤ capF := by omega
  clear B3 R3 hg3 BX R2 gg gl z2 hc2 hm2
  obtain ⟨x0, x1, x2, x3, x4, x5, x6⟩ := box7 BX3
  have z3 : w.heap.size < w3.heap.size := by omega
  have BW3 : Below w.heap.size w w3 := (bel1 _ _).trans (BX3.mono (by omega))
  go_wp2_with (at_builtin; refine (wpList_append_ex (by rfl) _ _ _ (by rfl) _ _ (by rfl) (by rfl) _ (app_copy _ _ _ _ _ bi ?h0 ?hb hL1) ?hK))
  case h0 => exact heap_alloc_new _ _
  case hb => exact HB.out.below (BW3.alloc BW3.size _)
  case hK =>
  intro v w4 gT capT hv B4 R4 hc4 hg4 hm4
  subst hv
  have BX4 : Below (w.heap.size + 1) (w.alloc (.cells #[.slice a L C, .int .i64 at', .int .i64 n, .int .i64 p, .int .i64 o, .int .u64 x, .string t] 40)) w4 := (BX3.alloc (by omega) _).trans (B4.mono (by omega))
  have RF4 : w4.rowIs gF 5 capF (fun j => .int .u8 (fM L bi j)) := rowIs_below (RF.alloc _) B4 (by omega)
  have gT1 : gF < gT := by omega
  have gT2 := R4.lt
  have K4 : KT w4 := h.below h.pos ((bel1 _ _).trans (BX4.mono (by omega)))
  clear x0 x1 x2 x3 x4 x5 x6
  obtain ⟨x0, x1, x2, x3, x4, x5, x6⟩ := box7 BX4
  clear B4 RF hg4 BX3 BW3
  have fb : ∀ j, j < L → fM L bi j = bi j := fun j hj => if_pos hj
  have tb : ∀ j, j < L → (if j < L then bi j else 0) = bi j := fun j hj => if_pos hj
  have L9 : L ≤ 9223372036854775700 := by omega
  have HF : Hid ((∀ j, j < L → fM L bi j = bi j) ∧ (∀ j, j < L → (if j < L then bi j else 0) = bi j)) := ⟨fb, tb⟩
  clear fb tb
  go_wp2_with fail
  refine (Get_all gF L capF at' p o (fM L bi) bi w4 K4 RF4 HF.out.1 hbi lF L9).mono ?_
  rintro e w5 ⟨rfl, b5⟩
  have BX5 := BX4.trans (b5.mono (by omega))
  have RF5 := rowIs_below RF4 b5 RF4.lt
  have RT5 := rowIs_below R4 b5 R4.lt
  have K5 := K4.below K4.pos b5
  clear x0 x1 x2 x3 x4 x5 x6
  obtain ⟨x0, x1, x2, x3, x4, x5, x6⟩ := box7 BX5
  have BW5 : Below w.heap.size w w5 := (bel1 _ _).trans (BX5.mono (by omega))
  have hcB := conv_arg (C := C) (HB.out.below BW5) hbi
  have hcM := fun c => (text_conv w5 gF capF (fM L bi) RF5 0 L c (by omega))
  rw [textF_congr (fM L bi) bi L 0 L HF.out.1 (by omega)] at hcM
  clear b5 RF4 R4 BX4 K4
  go_wp2_with (first
    | (go_at_call 23; refine (refGet_all gT L capT at' p o (fun j => if j < L then bi j else 0) bi w5 RT5 HF.out.2 hbi hc4 L9).mono ?_; rintro e w6 ⟨rfl, rfl⟩)
    | (go_at_call 24; refine (GetChars_all gF L capF at' n (fM L bi) bi _ RF5 HF.out.1 lF L9 hn).mono ?_; rintro e w6 ⟨rfl, rfl⟩)
    | (go_at_call 25; refine (refGetChars_all gT L capT at' n (fun j => if j < L then bi j else 0) bi _ RT5 HF.out.2 hc4 L9 hn).mono ?_; rintro e w6 ⟨rfl, rfl⟩))
  rename World => wD
  have GT : gT ≠ gF := by omega
  have GF0 : 0 < gF := by omega
  have KD : KT wD.drew := K5.below K5.pos (Below.refl _ _).drew
  have RFD : wD.drew.rowIs gF 5 capF (fun j => .int .u8 (fM L bi j)) := RF5.drew
  have RTD : wD.drew.rowIs gT 5 capT (fun j => .int .u8 (if j < L then bi j else 0)) := RT5.drew
  have BXD : Below (w.heap.size + 1) (w.alloc (.cells #[.slice a L C, .int .i64 at', .int .i64 n, .int .i64 p, .int .i64 o, .int .u64 x, .string t] 40)) wD.drew := BX5.drew
  clear x0 x1 x2 x3 x4 x5 x6 hcB hcM BW5 K5 RF5 RT5 BX5
  obtain ⟨x0, x1, x2, x3, x4, x5, x6⟩ := box7 BXD
  have zD : w.heap.size + 1 ≤ wD.heap.size := by have := RFD.lt; have e : wD.drew.heap.size = wD.heap.size := rfl; omega
  go_region_held (fun w' => w'.cell? ⟨w.heap.size, 1, none⟩ = some (.int .i64 at') ∧ w'.cell? ⟨w.heap.size, 3, none⟩ = some (.int .i64 p) ∧ w'.cell? ⟨w.heap.size, 4, none⟩ = some (.int .i64 o) ∧ w'.cell? ⟨w.heap.size, 5, none⟩ = some (.int .u64 x))
    (first | go_keep | exact boxS BX8 | exact boxS BX7)
    (first
      | (go_at_call 13; refine (Put_all gF L capF at' p o x (fM L bi) _ KD RFD lF L9 hx0 hx1).mono ?_; rintro e w7 ⟨rfl, o7, RF7⟩; have BX7 := BXD.trans (o7.below (B := w.heap.size + 1) gF1 zD); have RT7 := o7.row RTD GT)
      | (go_at_call 26; refine (refPut_all gT L capT at' p o x (fun j => if j < L then bi j else 0) _ RT7 hc4 L9 hx0 hx1).mono ?_; rintro e w8 ⟨rfl, b8, RT8⟩; have BX8 := BX7.trans (b8.mono (show w.heap.size + 1 ≤ gT by omega)); have RF8 := rowIs_below RF7 b8 gT1; have hcM8 := conv_same gF capF L (putF L at' p o x (fM L bi)) (putF L at' p o x bi) w8 RF8 (fun j hj => putF_same _ _ _ _ _ _ _ _ (HF.out.1 j hj)) lF; have hcT8 := conv_same gT capT L (putF L at' p o x (fun j => if j < L then bi j else 0)) (putF L at' p o x bi) w8 RT8 (fun j hj => putF_same _ _ _ _ _ _ _ _ (HF.out.2 j hj)) hc4))
  all_goals
    have RF9 : w8.drew.rowIs gF 5 capF (fun j => .int .u8 (putF L at' p o x (fM L bi) j)) := RF8.drew
    have RT9 : w8.drew.rowIs gT 5 capT (fun j => .int .u8 (putF L at' p o x (fun j => if j < L then bi j else 0) j)) := RT8.drew
    have BX9 : Below (w.heap.size + 1) (w.alloc (.cells #[.slice a L C, .int .i64 at', .int .i64 n, .int .i64 p, .int .i64 o, .int .u64 x, .string t] 40)) w8.drew := BX8.drew
    have z9 : w.heap.size + 1 ≤ w8.heap.size := by have := RF8.lt; omega
    have BX8' := BX8
    have KQ : Hid (∀ j, j < L → putF L at' p o x (fM L bi) j = putF L at' p o x bi j) := fun j hj => putF_same _ _ _ _ _ _ _ _ (HF.out.1 j hj)
    have KQ2 : Hid (∀ j, j < L → putF L at' p o x (fun j => if j < L then bi j else 0) j = putF L at' p o x bi j) := fun j hj => putF_same _ _ _ _ _ _ _ _ (HF.out.2 j hj)
    have KQ3 : Hid (∀ j, L ≤ j → putF L at' p o x (fM L bi) j = fM L bi j) := fun j hj => putF_far _ _ _ _ _ _ _ hj
    clear x0 x1 x2 x3 x4 x5 x6
    obtain ⟨x0, x1, x2, x3, x4, x5, x6⟩ := box7 BX8
    clear hcM8 hcT8 RF8 RT8 BX8 b8 BX7 RT7 RF7 o7 BXD RTD RFD KD
    generalize putF L at' p o x (fM L bi) = F1 at *
    generalize putF L at' p o x (fun j => if j < L then bi j else 0) = F2 at *
    generalize putF L at' p o x bi = F0 at *
    go_wp2_with fail
    go_region_held (fun w' => w'.cell? ⟨w.heap.size, 1, none⟩ = some (.int .i64 at') ∧ w'.cell? ⟨w.heap.size, 2, none⟩ = some (.int .i64 n) ∧ w'.cell? ⟨w.heap.size, 6, none⟩ = some (.string t))
      (first | go_keep | exact boxT BX12 | exact boxT BX11)
      (first
        | (go_at_call 27; refine (PutChars_all gF L capF at' n t F1 _ RF9 lF L9 hn).mono ?_; rintro e w11 ⟨rfl, o11, RF11⟩; have BX11 := BX9.trans (o11.below (B := w.heap.size + 1) gF1 z9); have RT11 := o11.row RT9 GT)
        | (go_at_call 28; refine (refPutChars_all gT L capT at' n t F2 _ RT11 hc4 L9).mono ?_; rintro e w12 ⟨rfl, b12, RT12⟩; have BX12 := BX11.trans (b12.mono (show w.heap.size + 1 ≤ gT by omega)); have RF12 := rowIs_below RF11 b12 gT1; have hcM12 := conv_same gF capF L (putT L at' n t F1) (putT L at' n t F0) w12 RF12 (fun j hj => putT_same _ _ _ _ _ _ _ (KQ.out j hj)) lF; have hcT12 := conv_same gT capT L (putT L at' n t F2) (putT L at' n t F0) w12 RT12 (fun j hj => putT_same _ _ _ _ _ _ _ (KQ2.out j hj)) hc4))
    all_goals
      have BW12 : Below w.heap.size w w12 := (bel1 _ _).trans (BX12.mono (by omega))
      have RG : w12.rowIs gF 5 capF (fun j => .int .u8 (putT L at' n t F1 j)) := RF12
      have tail3 : textF (putT L at' n t F1) L 3 = { data := #[77, 78, 79] } := by
        unfold textF
        have e0 : putT L at' n t F1 (L + 0) = 77 := by rw [putT_far _ _ _ _ _ _ (by omega), KQ3.out _ (by omega)]; unfold fM; rw [if_neg (by omega), if_pos (by omega)]; simp
        have e1 : putT L at' n t F1 (L + 1) = 78 := by rw [putT_far _ _ _ _ _ _ (by omega), KQ3.out _ (by omega)]; unfold fM; rw [if_neg (by omega), if_pos (by omega)]; simp
        have e2 : putT L at' n t F1 (L + 2) = 79 := by rw [putT_far _ _ _ _ _ _ (by omega), KQ3.out _ (by omega)]; unfold fM; rw [if_neg (by omega), if_pos (by omega)]; simp
        show strOfNums [putT L at' n t F1 (L + 0), putT L at' n t F1 (L + 1), putT L at' n t F1 (L + 2)] = _
        rw [e0, e1, e2]; rfl
      have TL : Hid (textF (putT L at' n t F1) L 3 = { data := #[77, 78, 79] }) := tail3
      have gz12 := RG.lt
      clear tail3 hcM12 hcT12 RF12 RT12 BX12 b12 BX11 RT11 RF11 o11 x0 x1 x2 x3 x4 x5 x6 RF9 RT9 BX9 z9
      generalize putT L at' n t F1 = F3 at *
      have kc := fun (w : World) (C : Array Value) (n c : Nat) => Lib.run_convert_bytes_const (P := Tryd.prog) w 30 5 C n c Tryd.underlying30 Tryd.underlying5
      go_wp2_with fail
      refine (GetChars_ab w12.heap.size _ (World.cell?_alloc_mark w12 _ 5 _ 0) (World.cell?_alloc_mark w12 _ 5 _ 1)).mono ?_
      rintro e w13 ⟨rfl, hw13⟩
      have cO : w13.cell? ⟨w12.heap.size, 0, none⟩ = some (.int .u8 97) := by rw [hw13]; exact World.cell?_alloc_mark w12 _ 5 _ 0
      have fO : w13.frozen? ⟨w12.heap.size, 0, none⟩ = false := by rw [hw13]; exact frozen_mark w12
      have RO : w13.rowIs gF 5 capF (fun j => .int .u8 (F3 j)) := by rw [hw13]; exact RG.alloc _
      have BO : Below w.heap.size w w13 := by rw [hw13]; exact BW12.alloc BW12.size _
      have zO : w12.heap.size < w13.heap.size := by rw [hw13]; simp
      have hcE : ∀ v c, (convert 30 9 (.slice (some ⟨gF, L, none⟩) 3 c)).run Tryd.prog (w13.setCell ⟨w12.heap.size, 0, none⟩ v) = .ok (.string { data := #[77, 78, 79] }) (w13.setCell ⟨w12.heap.size, 0, none⟩ v) := fun v c => by
        rw [text_conv _ gF capF F3 (RO.setOther (by show gF ≠ w12.heap.size; omega) v) L 3 c (by omega), TL.out]
      have sE : L + 3 - L = 3 := by omega
      clear hw13 RO kc RG
      go_wp2
      go_ret
      exact ⟨rfl, BO.setCell (by have := BW12.size; exact this) _⟩
end Go.Proofs.YthelmmdbgmdgeaaDoor
