/- The law TreeKept: the row, lifted; its card. -/
import Derived.Test.YtchfphakhmifmabGreatDoorCards
import Derived.Test.YtchfphakhmifmabGreatDoorTie
import Derived.Test.YtchfphakhmifmabGreatDoorTK
import Derived.Test.YtchfphakhmifmabGreatDoorTA6
import Derived.Deep.Slices
import Derived.SizedLaws
import Derived.Deep.DeepHandedRow
import Derived.Lay
import Derived.SevenTiedAt
import Derived.Stop.Joined
namespace Go.Proofs.YtchfphakhmifmabGreatDoor
namespace KeptLaw
open Go.ChangeShapes Go.WideShapes Go.ChangeAt Go.RowKit Go.ChangeMaps

theorem own : ownKnob Tryz.prog.godebug = none := by kernel_rfl
theorem laidOut : laidOutB Tryz.prog = true := by kernel_rfl
theorem kcellsStr : Tryz.prog.cellsOf 9 = 1 := by kernel_rfl
theorem kbytesStr : Tryz.prog.bytesOf 9 = 16 := by kernel_rfl
theorem strings_open {H : Type} {enc : TypeId × Value → H} {W : World} {fuel : Nat} {v : Value} {x : DataW H × List MemPlace} (h : DataW.trod enc Tryz.prog W 0 (fun _ => true) true fuel 40 [v] = some x)
    (hw : (x.1.weights Tryz.prog 40).all (· ≤ reachBytes) = true) :
    ∃ pp ss cp, v = .slice pp ss.length cp ∧ SRow W pp W.heap.size ss ∧ ss.length ≤ 140737488351232 ∧ ∀ s ∈ ss, s.size ≤ 9223372036854775807 := by
  rcases Go.Deep.open_slice Tryz.underlying40 h with ⟨hcs, hx⟩ | ⟨a, len, cap, m, n, D, Pl, hcs, _, hl, hm, hmm, hx, hel⟩
  · obtain rfl : v = .slice none 0 0 := by simpa using hcs
    exact ⟨none, [], 0, rfl, ⟨fun i t ht => by cases ht⟩, by decide, fun s hs => by cases hs⟩
  · obtain rfl : v = .slice (some a) len cap := by simpa using hcs
    simp only [if_true] at hmm
    subst m
    rw [kcellsStr] at hel
    have he : x.1 = .slice ((List.range len).map D) ((List.range (cap - len)).map fun j => D (len + j)) := by rw [hx]
    rw [he] at hw
    have hwl := List.all_eq_true.1 hw (((List.range len).map D).length + ((List.range (cap - len)).map fun j => D (len + j)).length |> (· * Tryz.prog.bytesOf 9)) (by simp [DataW.weights, Tryz.underlying40])
    rw [kbytesStr] at hwl
    simp [reachBytes] at hwl
    have one : ∀ i, i < len → ∃ t : ByteArray, W.cell? (a.add i) = some (.string t) ∧ t.size ≤ 9223372036854775807 := by
      intro i hi
      obtain ⟨cs', hc, ht⟩ := hel i (by omega)
      obtain ⟨_, hlen, hcell⟩ := World.cells?_some hc
      obtain ⟨c0, rfl⟩ := List.length_eq_one_iff.1 hlen
      obtain ⟨s0, h0, _, hsz⟩ := DataW.trod_string Tryz.underlying9 ht
      simp only [List.cons.injEq, and_true] at h0
      subst h0
      have g0 := hcell 0 (by decide)
      rw [Go.Deep.add_add, Nat.mul_one, Nat.add_zero] at g0
      exact ⟨s0, g0, by unfold maxLen at hsz; omega⟩
    haveI : Inhabited ByteArray := ⟨ByteArray.empty⟩
    obtain ⟨f, hf⟩ := Go.Deep.choose_lt one
    refine ⟨some a, (List.range len).map f, cap, by simp, ⟨fun i t ht => ?_⟩, by rw [List.length_map, List.length_range]; omega, fun s hs => ?_⟩
    · rw [List.getElem?_map] at ht
      by_cases hi : i < len
      · rw [List.getElem?_range hi] at ht
        cases ht
        obtain ⟨h0, _⟩ := hf i hi
        obtain ⟨g, o, spot⟩ := a
        have hspot : spot = none := by simpa [Addr.add] using World.cell?_spot (hf 0 (by omega)).1
        subst hspot
        have hadd : (⟨g, o, none⟩ : Addr).add i = ⟨g, o + i, none⟩ := by unfold Addr.add; split <;> simp_all
        rw [hadd] at h0
        exact ⟨g, o, rfl, kcell_lt (a := ⟨g, o + i, none⟩) h0, h0⟩
      · rw [List.getElem?_eq_none (by simp; omega)] at ht
        cases ht
    · obtain ⟨i, hi, rfl⟩ := List.mem_map.1 hs
      exact (hf i (List.mem_range.1 hi)).2
set_option maxRecDepth 100000 in
theorem contract (H : Type) (enc : TypeId × Value → H) (W : World) (base : Nat) (args : Array Value) (ds gs : List (DataW H)) (before : List MemPlace)
    (hval : ∀ (j : Nat) t v, Tryz.f5.params[j]? = some t → args[j]? = some v → Value.okWide Tryz.prog W .any base t v)
    (hW : DataW.Whole enc Tryz.prog Tryz.f5.params.toList Rows.treeKeptSpec.vars false W args.toList ds gs before) (hwt : (DataW.weightsEach Tryz.prog (Tryz.f5.params.toList ++ Rows.treeKeptSpec.plain.varTypes Tryz.prog) (ds ++ gs)).all (· ≤ reachBytes) = true) (hL : laidMetH Tryz.prog laid5 W) (hsh : W.ShapedOpen Tryz.prog) :
    Calls Tryz.prog 5 args W fun e W' => ∃ v, e = .returned v ∧ Rows.treeKeptSpec.post enc Tryz.prog Tryz.f5 false true false false W args v W' := by
  have hW' := hW
  obtain ⟨p, q, hA0, hV, rfl, hfz, hnd⟩ := hW
  have hA : DataW.TrodAll enc Tryz.prog W 0 (fun _ => true) true Tryz.f5.params.toList args.toList ds p := hA0
  have hwt' := hwt
  rw [Tryz.params5] at hA hval hwt'
  obtain ⟨v0, vs0, d0, ds0, p0, q0, hargs, rfl, rfl, h0, r0⟩ := trodAll_cons hA
  obtain ⟨rfl, rfl, rfl⟩ := trodAll_nil r0
  obtain rfl : args = #[v0] := by cases args; simp_all
  obtain ⟨rfl, rfl⟩ := trodVars_none hV
  have h0k := h0
  obtain ⟨fuel, hf⟩ := h0
  obtain ⟨ad, ln, cp0, rfl⟩ := okWide_slice Tryz.underlying40 (hval 0 40 v0 rfl rfl)
  have hcs : (Value.slice ad ln cp0).cells.toList = [Value.slice ad ln cp0] := rfl
  rw [hcs] at hf
  have hw0 : (d0.weights Tryz.prog 40).all (· ≤ reachBytes) = true := List.all_eq_true.2 fun n hn => List.all_eq_true.1 hwt' n (by
    simp only [DataW.weightsEach, List.cons_append, List.mem_append]
    exact .inl hn)
  obtain ⟨pp, ss, cp, hes, hS, hl, hz⟩ := strings_open hf hw0
  obtain ⟨hE, h7⟩ := env_of_row5 hL hsh
  simp only [List.append_nil] at hW'
  have hlt : ∀ x ∈ p0, x.block < W.heap.size := fun x hx => by simpa using hW'.lt x (by simpa using hx)
  rw [hes] at h0k hW' ⊢
  refine (TreeKept_any pp cp ss W hS hE h7 hz hl).mono fun e W' ⟨he, hg⟩ => ?_
  subst he
  refine ⟨_, rfl, _, _, _, [], p0, [], by simpa using hW', ?_, ?_, ?_, hg.frame _, fun h => by cases h⟩
  · exact trodAll_cons_mk (shut_bool Tryz.underlying4 _) trodAll_mk0
  · have := trodAll_cons_mk (Below.trod laidOut (by kernel_rfl) (of_decide_eq_true (by kernel_rfl)) h0k hg hlt) trodAll_mk0
    simp only [List.append_nil] at this
    exact this
  · rfl
theorem reads (os : Os) {H : Type} (enc : TypeId × Value → H) : ∃ places, DataW.whole enc Tryz.prog ((World.laidAll Tryz.prog os laid5).forCall (fun _ _ => 0) ⟨#[], #[.slice none 0 0], []⟩).memory Tryz.f5.params.toList Rows.treeKeptSpec.vars false #[Value.slice none 0 0].toList 8 = some ([.nil], [], places) :=
  ⟨[], by kernel_rfl⟩
theorem met (os : Os) : laidMet Tryz.prog laid5 ((World.laidAll Tryz.prog os laid5).forCall (fun _ _ => 0) ⟨#[], #[.slice none 0 0], []⟩).memory := laidMet_laidAll _ (by kernel_rfl) (by kernel_rfl)
set_option maxRecDepth 100000 in
theorem lifted (os : Os) (started : os.Started) (H : Type) (enc : TypeId × Value → H) (F : Stop.Interp) :
    ReturnsInHanded {} Tryz.checked os 5 .any ((OpenSpec.ofChange Rows.treeKeptSpec).preRow enc Tryz.prog Tryz.f5 Rows.treeKeptRow.domain false Rows.treeKeptRow.laid) (((OpenSpec.ofChange Rows.treeKeptSpec).at F).post enc Tryz.prog Tryz.f5 false true false false) := by
  obtain ⟨places, hx⟩ := reads os enc
  refine returnsInHanded_of_row (C := Tryz.checked) (s := OpenSpec.ofChange Rows.treeKeptSpec) own started (by kernel_rfl) Tryz.func5
    (witness_zip (enc := enc) (C := Tryz.checked) (World.laidAll Tryz.prog os laid5) #[.slice none 0 0] (World.laidAll_os _ _ _) (by kernel_rfl) (by kernel_rfl) (by kernel_rfl)
      (OpenSpec.preRow_of_cond 8 hx (by kernel_rfl) (fun k hk => by cases hk) (by kernel_rfl) (met os))) ?_
  intro W base args ds gs before hval hW _ _ hwt hL hsh _
  exact contract H enc W base args ds gs before hval hW hwt hL hsh
theorem said : Rows.TreeKeptSaid :=
  OpenClaim.holds_of_cond 5 Tryz.f5 rfl rfl rfl rfl rfl rfl rfl ⟨rfl, rfl, rfl, rfl, rfl⟩ rfl rfl rfl rfl rfl (by kernel_rfl) Tryz.func5 (by kernel_rfl)
    (of_decide_eq_true (by kernel_rfl)) (by unfold Func.isWrapper; first | (rw [if_pos (by decide +kernel)]; kernel_rfl) | (rw [if_neg (by decide +kernel)]; exact ⟨rfl, rfl⟩))
    (fun os started H enc _ F => by rw [OpenClaim.pre_eq_preRow]; exact lifted os started H enc F)
theorem plain (f : FuncId) (fn : Func) (hf : Tryz.pinned.checked.prog.funcNamed "stencil/stencillaw05.TreeKept" = some f) (hfn : Tryz.pinned.checked.prog.funcs[f]? = some fn) :
    true = Tryz.pinned.checked.prog.looks [] ∧ ∀ (j : Nat) t, fn.params[j]? = some t → Tryz.pinned.checked.prog.wantsStandIn t = false := by
  obtain rfl : f = 5 := Option.some.inj ((show Tryz.prog.funcNamed "stencil/stencillaw05.TreeKept" = some 5 by kernel_rfl).symm.trans hf) |>.symm
  obtain rfl : fn = Tryz.f5 := (Option.some.inj (Tryz.func5.symm.trans hfn)).symm
  refine ⟨by kernel_rfl, fun j t ht => ?_⟩
  rw [Tryz.params5] at ht
  have h : t = 40 := by
    have := Array.mem_of_getElem? ht
    simpa using this
  subst h
  exact (show Tryz.prog.wantsStandIn 40 = false by kernel_rfl)
end KeptLaw

/-- The card. -/
theorem treeKept_card : Rows.TreeKeptCardSaid :=
  Claim7.holds_tied_plain_at .later [] _ _ _ _ KeptLaw.said (fun _ h => by cases h) (by kernel_rfl) (fun _ h => by cases h) treeKept_row_tie rfl ⟨rfl, rfl⟩ (by kernel_rfl) rfl KeptLaw.plain (by kernel_rfl)
#print axioms treeKept_card
end Go.Proofs.YtchfphakhmifmabGreatDoor
