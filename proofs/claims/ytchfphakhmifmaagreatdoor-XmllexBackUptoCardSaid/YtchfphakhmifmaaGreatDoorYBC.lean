/- The law XmllexBack: the row of the second form, lifted; its card. -/
import Derived.Test.YtchfphakhmifmaaGreatDoorCards
import Derived.Test.YtchfphakhmifmaaGreatDoorTie
import Derived.Test.YtchfphakhmifmaaGreatDoorYBL2
import Derived.Test.YtchfphakhmifmaaGreatDoorYBL3
import Derived.Test.YtchfphakhmifmaaGreatDoorXLaid
import Derived.Test.YtchfphakhmifmaaGreatDoorXOp
import Derived.Deep.Slices
import Derived.SizedLaws
import Derived.Deep.DeepHandedRow
import Derived.Lay
import Derived.SevenTiedAt
import Derived.Stop.Joined
namespace Go.Proofs.YtchfphakhmifmaaGreatDoor
namespace BackLaw
open Go.ChangeShapes Go.WideShapes Go.ChangeAt Go.RowKit Go.ChangeMaps ToksLaw

theorem own : ownKnob Tryz.prog.godebug = none := by kernel_rfl
theorem laidOut : laidOutB Tryz.prog = true := by kernel_rfl
theorem Back_any (pp : Option Addr) (cp : Nat) (ts : List IT) (s : ByteArray) (w : World) (hr : IRow w pp w.heap.size ts) (hl : ts.length ≤ 1048576) (hok : ∀ t ∈ ts, t.nm.size ≤ 16777216 ∧ t.vl.size ≤ 16777216) (hs : s.size ≤ 1048576) (hB : BW w w) :
    Calls Tryz.prog 4 #[.slice pp ts.length cp, .string s] w fun e w' => e = .returned (.bool true) ∧ Below w.heap.size w w' := by
  obtain ⟨T1, e1, n1, h1⟩ : ∃ T e n, prZ ts 0 (-1) [] = (T, e, n) := ⟨_, _, _, rfl⟩
  obtain ⟨us, o, h2⟩ : ∃ us o, toksN s = (us, o) := ⟨_, _, rfl⟩
  by_cases he : e1 = 0
  · subst he
    obtain ⟨us1, hu1, hm1, hr1⟩ := back_all h1
    cases o with
    | some ep =>
      obtain ⟨er, p⟩ := ep
      have hb := toksN_bad_le (by omega) h2
      exact back_Ba pp cp ts s w hr hl hok hs hB h1 hu1 hm1 hr1 h2 hb.1 hb.2
    | none =>
      rcases again_all h2 with ⟨h3, hz⟩ | ⟨T2, vs, h3, h4, h5⟩
      · exact back_Bb pp cp ts s w hr hl hok hs hB h1 hu1 hm1 hr1 h2 h3 hz
      · exact back_Bc pp cp ts s w hr hl hok hs hB h1 hu1 hm1 hr1 h2 h3 h4 h5
  · cases o with
    | some ep =>
      obtain ⟨er, p⟩ := ep
      have hb := toksN_bad_le (by omega) h2
      exact back_Aa pp cp ts s w hr hl hok hs hB h1 he h2 hb.1 hb.2
    | none =>
      rcases again_all h2 with ⟨h3, hz⟩ | ⟨T2, vs, h3, h4, h5⟩
      · exact back_Ab pp cp ts s w hr hl hok hs hB h1 he h2 h3 hz
      · exact back_Ac pp cp ts s w hr hl hok hs hB h1 he h2 h3 h4 h5
set_option maxRecDepth 100000 in
set_option maxHeartbeats 2000000 in
theorem contract (H : Type) (enc : TypeId × Value → H) (W : World) (base : Nat) (args : Array Value) (ds gs : List (DataW H)) (before : List MemPlace)
    (hval : ∀ (j : Nat) t v, Tryz.f4.params[j]? = some t → args[j]? = some v → Value.okWide Tryz.prog W .any base t v)
    (hW : DataW.Whole enc Tryz.prog Tryz.f4.params.toList Rows.xmllexBackSpec.vars false W args.toList ds gs before) (hk : Rows.uptoSmall H (ds ++ gs) = true) (hL : laidMetH Tryz.prog laid6 W) (hsh : W.ShapedOpen Tryz.prog) :
    Calls Tryz.prog 4 args W fun e W' => ∃ v, e = .returned v ∧ Rows.xmllexBackSpec.post enc Tryz.prog Tryz.f4 false true false false W args v W' := by
  have hW' := hW
  obtain ⟨p, q, hA0, hV, rfl, hfz, hnd⟩ := hW
  have hA : DataW.TrodAll enc Tryz.prog W 0 (fun _ => true) true Tryz.f4.params.toList args.toList ds p := hA0
  rw [Tryz.params4] at hA hval
  obtain ⟨v0, vs0, d0, ds0, p0, q0, hargs, rfl, rfl, h0, r0⟩ := trodAll_cons hA
  obtain ⟨v1, vs1, d1, ds1, p1, q1, rfl, rfl, rfl, h1, r1⟩ := trodAll_cons r0
  obtain ⟨rfl, rfl, rfl⟩ := trodAll_nil r1
  obtain rfl : args = #[v0, v1] := by cases args; simp_all
  obtain ⟨rfl, rfl⟩ := trodVars_none hV
  obtain ⟨s, rfl, rfl, rfl, hsz⟩ := open_string Tryz.underlying9 (hval 1 9 v1 rfl rfl) h1
  obtain ⟨a0, len, cap, rfl⟩ := okWide_slice Tryz.underlying31 (hval 0 31 v0 rfl rfl)
  have h0k := h0
  obtain ⟨fuel, hf⟩ := h0
  clear hA0
  simp only [List.append_nil] at hW'
  have hlt : ∀ x ∈ p0, x.block < W.heap.size := fun x hx => by simpa using hW'.lt x hx
  have hbd : Rows.uptoBulk d0 ≤ 1048576 ∧ s.size ≤ 1048576 := by
    have h1 := of_decide_eq_true hk
    have e : Rows.uptoBulkAll ([d0, .lit (.string s.data.toList)] ++ []) = Rows.uptoBulk d0 + (Rows.uptoBulk (H := H) (.lit (.string s.data.toList)) + 0) := rfl
    rw [e] at h1
    simp only [Rows.uptoBulk] at h1
    rw [tl_len] at h1
    omega
  have hf2 : DataW.trod enc Tryz.prog W 0 (fun _ => true) true fuel 31 [Value.slice a0 len cap] = some (d0, p0) := by simpa [Value.cells] using hf
  obtain ⟨pp, ts, cp, hv, hrow, hlen, hok⟩ := toks_open (x := (d0, p0)) hf2 hbd.1
  cases hv
  obtain ⟨hE, hS, h7⟩ := env_of_row hL hsh
  refine (Back_any _ _ ts s W hrow hlen (fun t ht => ⟨by have := (hok t ht).1; omega, by have := (hok t ht).2; omega⟩) hbd.2 ⟨Below.refl _ _, hE, hS, h7⟩).mono fun e W' ⟨he, hg⟩ => ?_
  subst he
  refine ⟨_, rfl, _, _, _, [], p0, [], hW', ?_, ?_, ?_, hg.frame _, fun h => by cases h⟩
  · exact trodAll_cons_mk (shut_bool Tryz.underlying4 _) trodAll_mk0
  · have := trodAll_mk2 (Below.trod laidOut (by kernel_rfl) (of_decide_eq_true (by kernel_rfl)) h0k hg hlt) (shut_string Tryz.underlying9 hsz)
    rw [List.append_nil] at this
    exact this
  · rfl
theorem reads (os : Os) {H : Type} (enc : TypeId × Value → H) : ∃ places, DataW.whole enc Tryz.prog ((World.laidAll Tryz.prog os laid6).forCall (fun _ _ => 0) ⟨#[], #[.slice none 0 0, .string ⟨#[]⟩], []⟩).memory Tryz.f4.params.toList Rows.xmllexBackSpec.vars false #[Value.slice none 0 0, .string ⟨#[]⟩].toList 8 = some ([.nil, .lit (.string [])], [], places) :=
  ⟨[], by kernel_rfl⟩
theorem met (os : Os) : laidMet Tryz.prog laid6 ((World.laidAll Tryz.prog os laid6).forCall (fun _ _ => 0) ⟨#[], #[.slice none 0 0, .string ⟨#[]⟩], []⟩).memory := laidMet_laidAll _ (by kernel_rfl) (by kernel_rfl)
set_option maxRecDepth 100000 in
theorem lifted (os : Os) (started : os.Started) (H : Type) (enc : TypeId × Value → H) (F : Stop.Interp) :
    ReturnsInHanded {} Tryz.checked os 4 .any ((Rows.OpenSpec.upto Rows.xmllexBackSpec).preRow enc Tryz.prog Tryz.f4 Rows.xmllexBackUptoRow.domain false Rows.xmllexBackUptoRow.laid) (((Rows.OpenSpec.upto Rows.xmllexBackSpec).at F).post enc Tryz.prog Tryz.f4 false true false false) := by
  obtain ⟨places, hx⟩ := reads os enc
  refine returnsInHanded_of_row (C := Tryz.checked) (s := Rows.OpenSpec.upto Rows.xmllexBackSpec) own started (by kernel_rfl) Tryz.func4
    (witness_zip (enc := enc) (C := Tryz.checked) (World.laidAll Tryz.prog os laid6) #[.slice none 0 0, .string ⟨#[]⟩] (World.laidAll_os _ _ _) (by kernel_rfl) (by kernel_rfl) (by kernel_rfl)
      (OpenSpec.preRow_of_cond 8 hx (by kernel_rfl) (fun k hk => by cases hk; kernel_rfl) (by kernel_rfl) (met os))) ?_
  intro W base args ds gs before hval hW _ hcond _ hL hsh _
  exact contract H enc W base args ds gs before hval hW (hcond _ rfl) hL hsh
theorem said : Rows.XmllexBackUptoSaid :=
  OpenClaim.holds_of_cond 4 Tryz.f4 rfl rfl rfl rfl rfl rfl rfl ⟨rfl, rfl, rfl, rfl, rfl⟩ rfl rfl rfl rfl rfl (by kernel_rfl) Tryz.func4 (by kernel_rfl)
    (of_decide_eq_true (by kernel_rfl)) (by unfold Func.isWrapper; first | (rw [if_pos (by decide +kernel)]; kernel_rfl) | (rw [if_neg (by decide +kernel)]; exact ⟨rfl, rfl⟩))
    (fun os started H enc _ F => by rw [OpenClaim.pre_eq_preRow]; exact lifted os started H enc F)
theorem plain (f : FuncId) (fn : Func) (hf : Tryz.pinned.checked.prog.funcNamed "stencil/stencillaw04.XmllexBack" = some f) (hfn : Tryz.pinned.checked.prog.funcs[f]? = some fn) :
    true = Tryz.pinned.checked.prog.looks [] ∧ ∀ (j : Nat) t, fn.params[j]? = some t → Tryz.pinned.checked.prog.wantsStandIn t = false := by
  obtain rfl : f = 4 := Option.some.inj ((show Tryz.prog.funcNamed "stencil/stencillaw04.XmllexBack" = some 4 by kernel_rfl).symm.trans hf) |>.symm
  obtain rfl : fn = Tryz.f4 := (Option.some.inj (Tryz.func4.symm.trans hfn)).symm
  refine ⟨by kernel_rfl, fun j t ht => ?_⟩
  rw [Tryz.params4] at ht
  have hm : t = 31 ∨ t = 9 := by simpa using Array.mem_of_getElem? ht
  rcases hm with rfl | rfl
  · exact (show Tryz.prog.wantsStandIn 31 = false by kernel_rfl)
  · exact (show Tryz.prog.wantsStandIn 9 = false by kernel_rfl)
end BackLaw

/-- The card of the second form. -/
theorem xmllexBack_card : Rows.XmllexBackUptoCardSaid :=
  Claim7.holds_tied_plain_at .later [] _ _ _ _ BackLaw.said (fun _ h => by cases h) (by kernel_rfl) (fun _ h => by cases h) xmllexBackUpto_row_tie rfl ⟨rfl, rfl⟩ (by kernel_rfl) rfl BackLaw.plain (by kernel_rfl)
#print axioms xmllexBack_card
end Go.Proofs.YtchfphakhmifmaaGreatDoor
