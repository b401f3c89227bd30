/- The law PrimBack: the row, lifted; the card. -/
import Derived.Test.YthelmmdbgmdgeaaDoorCards
import Derived.Test.YthelmmdbgmdgeaaDoorTie
import Derived.Test.YthelmmdbgmdgeaaDoorBackFit
import Derived.Test.YthelmmdbgmdgeaaDoorBackNo
import Derived.Test.YthelmmdbgmdgeaaDoorLaid
namespace Go.Proofs.YthelmmdbgmdgeaaDoor
namespace BackLaw
open Go.ChangeShapes Go.WideShapes Go.ChangeAt Go.RowKit

theorem back_any (p x ahead fill : Int) (w : World) (h : KT w) (hx0 : 0 ≤ x) (hx1 : x < 18446744073709551616) (hf0 : 0 ≤ fill) (hf1 : fill ≤ 255) :
    Calls Tryd.prog 4 #[.int .i64 p, .int .u64 x, .int .i64 ahead, .int .u8 fill] w fun e w' => e = .returned (.bool true) ∧ Below w.heap.size w w' := by
  have hc : sz p = 0 ∨ sz p = 1 ∨ sz p = 2 ∨ sz p = 4 ∨ sz p = 8 := by have := kok p; unfold KOk at this; omega
  obtain ⟨s, hs⟩ : ∃ s : Nat, sz p = s := ⟨(sz p).toNat, by omega⟩
  have b1 := Int.tmod_lt_of_pos ahead (show (0 : Int) < 9 by decide)
  have b2 := Int.lt_tmod_of_pos ahead (show (0 : Int) < 9 by decide)
  by_cases hn : ahead.tmod 9 < 0
  · obtain ⟨A, hA⟩ : ∃ A : Nat, ahead.tmod 9 = -(A : Int) := ⟨(-(ahead.tmod 9)).toNat, by omega⟩
    by_cases h0 : s = 0
    · exact back_none_neg p x ahead fill A s w h hx0 hx1 hf0 hf1 hA (by omega) (by omega) hs h0
    · cases hft : fitsF (sz p) (rd p) x
      · exact back_unfit_neg p x ahead fill A s w h hx0 hx1 hf0 hf1 hA (by omega) (by omega) hs (by omega) hft
      · exact back_fit_neg p x ahead fill A s w h hx0 hx1 hf0 hf1 hA (by omega) (by omega) hs (by omega) hft
  · obtain ⟨A, hA⟩ : ∃ A : Nat, ahead.tmod 9 = A := ⟨(ahead.tmod 9).toNat, by omega⟩
    by_cases h0 : s = 0
    · exact back_none p x ahead fill A s w h hx0 hx1 hf0 hf1 hA (by omega) hs h0
    · cases hft : fitsF (sz p) (rd p) x
      · exact back_unfit p x ahead fill A s w h hx0 hx1 hf0 hf1 hA (by omega) hs (by omega) hft
      · exact back_fit p x ahead fill A s w h hx0 hx1 hf0 hf1 hA (by omega) hs (by omega) hft

theorem contract (H : Type) (enc : TypeId × Value → H) (W : World) (base : Nat) (args : Array Value) (ds gs : List (DataW H)) (before : List MemPlace)
    (hval : ∀ (j : Nat) t v, Tryd.f4.params[j]? = some t → args[j]? = some v → Value.okWide Tryd.prog W .any base t v)
    (hW : DataW.Whole enc Tryd.prog Tryd.f4.params.toList Rows.primBackSpec.vars false W args.toList ds gs before) (hL : laidMetH Tryd.prog Rows.primBackRow.laid W) :
    Calls Tryd.prog 4 args W fun e W' => ∃ v, e = .returned v ∧ Rows.primBackSpec.post enc Tryd.prog Tryd.f4 false true false false W args v W' := by
  have hW' := hW
  obtain ⟨p, q, hA0, hV, rfl, hfz, hnd⟩ := hW
  have hA : DataW.TrodAll enc Tryd.prog W 0 (fun _ => true) true Tryd.f4.params.toList args.toList ds p := hA0
  rw [Tryd.params4] at hA hval
  obtain ⟨v0, vs0, d0, ds0, p0, q0, hargs, rfl, rfl, h0, r0⟩ := trodAll_cons hA
  obtain ⟨v1, vs1, d1, ds1, p1, q1, rfl, rfl, rfl, h1, r1⟩ := trodAll_cons r0
  obtain ⟨v2, vs2, d2, ds2, p2, q2, rfl, rfl, rfl, h2, r2⟩ := trodAll_cons r1
  obtain ⟨v3, vs3, d3, ds3, p3, q3, rfl, rfl, rfl, h3, r3⟩ := trodAll_cons r2
  obtain ⟨rfl, rfl, rfl⟩ := trodAll_nil r3
  obtain rfl : args = #[v0, v1, v2, v3] := by cases args; simp_all
  obtain ⟨rfl, rfl⟩ := trodVars_none hV
  obtain ⟨n, rfl, rfl, rfl, hwn⟩ := open_int Tryd.underlying22 (hval 0 22 v0 rfl rfl) h0
  obtain ⟨a, rfl, rfl, rfl, hwa⟩ := open_int Tryd.underlying23 (hval 1 23 v1 rfl rfl) h1
  obtain ⟨b, rfl, rfl, rfl, hwb⟩ := open_int Tryd.underlying3 (hval 2 3 v2 rfl rfl) h2
  obtain ⟨c, rfl, rfl, rfl, hwc⟩ := open_int Tryd.underlying5 (hval 3 5 v3 rfl rfl) h3
  clear hA0
  simp only [List.append_nil] at hW'
  obtain ⟨ha0, ha1⟩ := bounds_u64 hwa
  obtain ⟨hc0, hc1⟩ := bounds_u8 hwc
  refine (back_any n a b c W (kt_of_laid hL) ha0 (by omega) hc0 hc1).mono fun e W' ⟨he, hg⟩ => ?_
  subst he
  refine ⟨_, rfl, _, _, _, [], [], [], hW', ?_, ?_, ?_, hg.frame _, fun h => by cases h⟩
  · exact trodAll_cons_mk (shut_bool Tryd.underlying4 _) trodAll_mk0
  · exact trodAll_cons_mk (shut_int Tryd.underlying22 hwn) (trodAll_cons_mk (shut_int Tryd.underlying23 hwa) (trodAll_cons_mk (shut_int Tryd.underlying3 hwb) (trodAll_cons_mk (shut_int Tryd.underlying5 hwc) trodAll_mk0)))
  · rfl

theorem laid_met (os : Os) : laidMet Tryd.prog Rows.primBackRow.laid ((laidWorld os).forCall (fun _ _ => 0) ⟨#[], #[.int .i64 0, .int .u64 0, .int .i64 0, .int .u8 0], []⟩).memory :=
  laidMet_of_run' 8 (by kernel_rfl) (by kernel_rfl)
theorem reads (os : Os) {H : Type} (enc : TypeId × Value → H) : ∃ places, DataW.whole enc Tryd.prog ((laidWorld os).forCall (fun _ _ => 0) ⟨#[], #[.int .i64 0, .int .u64 0, .int .i64 0, .int .u8 0], []⟩).memory Tryd.f4.params.toList Rows.primBackSpec.vars false #[Value.int .i64 0, .int .u64 0, .int .i64 0, .int .u8 0].toList 8 = some ([.lit (.int .i64 0), .lit (.int .u64 0), .lit (.int .i64 0), .lit (.int .u8 0)], [], places) :=
  ⟨[], by kernel_rfl⟩

set_option maxRecDepth 100000 in
theorem lifted (os : Os) (started : os.Started) (H : Type) (enc : TypeId × Value → H) (F : Stop.Interp) :
    ReturnsInHanded {} Tryd.checked os 4 .any ((OpenSpec.ofChange Rows.primBackSpec).preRow enc Tryd.prog Tryd.f4 Rows.primBackRow.domain false Rows.primBackRow.laid) (((OpenSpec.ofChange Rows.primBackSpec).at F).post enc Tryd.prog Tryd.f4 false true false false) := by
  obtain ⟨places, hx⟩ := reads os enc
  refine returnsInHanded_of_row (C := Tryd.checked) (s := OpenSpec.ofChange Rows.primBackSpec) own started (by kernel_rfl) Tryd.func4
    (witness_row_at (enc := enc) (C := Tryd.checked) false (laidWorld os) #[.int .i64 0, .int .u64 0, .int .i64 0, .int .u8 0] rfl (by kernel_rfl) (by kernel_rfl) (by kernel_rfl)
      (OpenSpec.preRow_of_cond 8 hx (by kernel_rfl) (fun k hk => by cases hk) (by kernel_rfl) (laid_met os))) ?_
  intro W base args ds gs before hval hW _ _ _ hL _ _
  exact contract H enc W base args ds gs before hval hW hL

theorem said : Rows.PrimBackSaid :=
  OpenClaim.holds_of_cond 4 Tryd.f4 rfl rfl rfl rfl rfl rfl rfl ⟨rfl, rfl, rfl, rfl, rfl⟩ rfl rfl rfl rfl rfl (by kernel_rfl) Tryd.func4 (by kernel_rfl)
    (of_decide_eq_true (by kernel_rfl)) (by unfold Func.isWrapper; first | (rw [if_pos (by decide +kernel)]; kernel_rfl) | (rw [if_neg (by decide +kernel)]; exact ⟨rfl, rfl⟩))
    (fun os started H enc _ F => by rw [OpenClaim.pre_eq_preRow]; exact lifted os started H enc F)

theorem plain (f : FuncId) (fn : Func) (hf : Tryd.pinned.checked.prog.funcNamed "stencil/stencillaw01.PrimBack" = some f) (hfn : Tryd.pinned.checked.prog.funcs[f]? = some fn) :
    false = Tryd.pinned.checked.prog.looks [] ∧ ∀ (j : Nat) t, fn.params[j]? = some t → Tryd.pinned.checked.prog.wantsStandIn t = false := by
  obtain rfl : f = 4 := Option.some.inj ((show Tryd.prog.funcNamed "stencil/stencillaw01.PrimBack" = some 4 by kernel_rfl).symm.trans hf) |>.symm
  obtain rfl : fn = Tryd.f4 := (Option.some.inj (Tryd.func4.symm.trans hfn)).symm
  refine ⟨by kernel_rfl, fun j t ht => ?_⟩
  rw [Tryd.params4] at ht
  have h : t = 22 ∨ t = 23 ∨ t = 3 ∨ t = 5 := by
    have := Array.mem_of_getElem? ht
    simpa using this
  rcases h with rfl | rfl | rfl | rfl
  · exact (show Tryd.prog.wantsStandIn 22 = false by kernel_rfl)
  · exact (show Tryd.prog.wantsStandIn 23 = false by kernel_rfl)
  · exact (show Tryd.prog.wantsStandIn 3 = false by kernel_rfl)
  · exact (show Tryd.prog.wantsStandIn 5 = false by kernel_rfl)
end BackLaw

/-- The card. -/
theorem primBack_card : Rows.PrimBackCardSaid :=
  Claim7.holds_tied_plain_at .later [] _ _ _ _ BackLaw.said (fun _ h => by cases h) (by kernel_rfl) (fun _ h => by cases h) primBack_row_tie rfl ⟨rfl, rfl⟩ (by kernel_rfl) rfl BackLaw.plain (by kernel_rfl)
#print axioms primBack_card
end Go.Proofs.YthelmmdbgmdgeaaDoor
