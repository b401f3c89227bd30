/- The document's letter and digit. -/
import Derived.Test.YtfikmlckcbnppaaDoorLpM
import Derived.Test.YtfikmlckcbnppaaDoorSym
import Derived.Test.YtfikmlckcbnppaaDoorLpR
import Derived.Laws.BytesArg
namespace Go.Proofs.YtfikmlckcbnppaaDoor
open Go.ChangeShapes Go.WideShapes Go.ChangeAt Go.RowKit

def oneB (c : Nat) : ByteArray := ⟨#[UInt8.ofNat c]⟩
theorem oneB_size (c : Nat) : (oneB c).size = 1 := rfl
theorem oneB_ch (c : Nat) (hc : c < 256) : ch (oneB c) 0 = c := by
  show (UInt8.ofNat c).toNat = c
  simp
  omega
theorem nconv (W : World) (g : Nat) (c : Nat) (hg : W.heap.size = g) :
    (convert 37 9 (.slice (some ⟨g, 0, none⟩) 1 1)).run Tryd.prog (W.alloc (.cells #[.int .u8 (c : Int)] 5)) = .ok (.string (oneB c)) (W.alloc (.cells #[.int .u8 (c : Int)] 5)) := by
  subst hg
  have : strOfNums [(c : Int)] = oneB c := by unfold strOfNums oneB; simp
  rw [← this]
  refine run_convert_bytes_arg _ 37 5 Tryd.underlying37 Tryd.underlying5 W.heap.size 0 1 1 [(c : Int)] rfl (fun i hi => ?_) 9 Tryd.underlying9
  obtain rfl : i = 0 := by omega
  have : (W.alloc (.cells #[.int .u8 (c : Int)] 5)).heap[W.heap.size]? = some (.cells #[.int .u8 (c : Int)] 5) := heap_alloc_new W _
  rw [Nat.zero_add]
  unfold World.cell?
  rw [this]
  rfl
theorem digit21 (c : Nat) (w : World) : Calls Tryd.prog 13 #[.int .u8 (c : Int)] w fun e w' => e = .returned (.bool (ndig c)) ∧ w' = w := by
  unfold ndig
  by_cases h : 48 ≤ c
  · go_enter Tryd.func13, Tryd.ntmps13
    go_wp2
    go_ret
    exact ⟨nret (by simp [h]; omega), rfl⟩
  · have d : decide (48 ≤ (c : Int)) = false := by simp; omega
    go_enter Tryd.func13, Tryd.ntmps13
    go_wp2
    go_ret
    exact ⟨nret (by simp; omega), rfl⟩
theorem symC_one (c : Nat) (hc : c < 256) : symbolB (oneB c) = symC c true := by
  unfold symbolB symC
  rw [oneB_size, oneB_ch c hc]
  cases hs : nsym c <;> cases hd : ndig c
  · exact decide_eq_false fun h => by have := h.2.2.2 0 (by omega); rw [oneB_ch c hc, hs] at this; cases this
  · exact decide_eq_false fun h => by have := h.2.2.1; cases this
  · exact decide_eq_true ⟨by omega, by omega, rfl, fun i hi => by obtain rfl : i = 0 := by omega
                                                                  rw [oneB_ch c hc, hs]⟩
  · exact decide_eq_false fun h => by have := h.2.2.1; cases this
theorem symC_two (c : Nat) (hc : c < 256) : symbolB ((⟨#[97]⟩ : ByteArray) ++ oneB c) = symC c false := by
  have hsz : ((⟨#[97]⟩ : ByteArray) ++ oneB c).size = 2 := by rw [ByteArray.size_append]; rfl
  have h0 : ch ((⟨#[97]⟩ : ByteArray) ++ oneB c) 0 = 97 := by rw [ch_app_l _ _ _ (by decide)]; rfl
  have h1 : ch ((⟨#[97]⟩ : ByteArray) ++ oneB c) 1 = c := by rw [show 1 = (⟨#[97]⟩ : ByteArray).size + 0 from rfl, ch_app_r, oneB_ch c hc]
  unfold symbolB symC
  rw [hsz, h0]
  cases hs : nsym c
  · exact decide_eq_false fun h => by have := h.2.2.2 1 (by omega); rw [h1, hs] at this; cases this
  · have : (true && !(ndig c && false)) = true := by simp
    rw [this]
    refine decide_eq_true ⟨by omega, by omega, by decide, fun i hi => ?_⟩
    have : i = 0 ∨ i = 1 := by omega
    rcases this with rfl | rfl
    · rw [h0]; decide
    · rw [h1, hs]
theorem letter21 (c : Nat) (hc : c < 256) (x : Bool) (w : World) : Calls Tryd.prog 12 #[.int .u8 (c : Int), .bool x] w fun e w' => e = .returned (.bool (symC c x)) ∧ Below w.heap.size w w' := by
  have hcv := nconv w w.heap.size c rfl
  have hb := (Below.refl _ w).alloc (Nat.le_refl w.heap.size) (.cells #[.int .u8 (c : Int)] 5)
  cases x
  · have cS := rSymbol ((⟨#[97]⟩ : ByteArray) ++ oneB c) (by rw [ByteArray.size_append, oneB_size]; decide) (w.alloc (.cells #[.int .u8 (c : Int)] 5))
    rw [symC_two c hc] at cS
    go_enter Tryd.func12, Tryd.ntmps12
    go_wp2_with (go_at_call 14; refine cS.mono ?_; rintro _ w1 ⟨rfl, h1⟩)
    go_ret
    exact ⟨rfl, hb.trans (h1.mono hb.size)⟩
  · have cS := rSymbol (oneB c) (by rw [oneB_size]; decide) (w.alloc (.cells #[.int .u8 (c : Int)] 5))
    rw [symC_one c hc] at cS
    go_enter Tryd.func12, Tryd.ntmps12
    go_wp2_with (go_at_call 14; refine cS.mono ?_; rintro _ w1 ⟨rfl, h1⟩)
    go_ret
    exact ⟨rfl, hb.trans (h1.mono hb.size)⟩
end Go.Proofs.YtfikmlckcbnppaaDoor
