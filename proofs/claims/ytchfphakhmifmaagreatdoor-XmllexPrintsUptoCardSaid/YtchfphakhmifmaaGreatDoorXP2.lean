/- The law XmllexPrints: the row of the second form, lifted; its card. -/
import Derived.Test.YtchfphakhmifmaaGreatDoorCards
import Derived.Test.YtchfphakhmifmaaGreatDoorTie
import Derived.Test.YtchfphakhmifmaaGreatDoorXP1
import Derived.Test.YtchfphakhmifmaaGreatDoorXLaid
import Derived.Deep.Slices
import Derived.SizedLaws
import Derived.Deep.DeepHandedRow
import Derived.Lay
import Derived.SevenTiedAt
import Derived.Stop.Joined
namespace Go.Proofs.YtchfphakhmifmaaGreatDoor
namespace PrintsLaw
open Go.ChangeShapes Go.WideShapes Go.ChangeAt Go.RowKit Go.ChangeMaps

theorem own : ownKnob Tryz.prog.godebug = none := by kernel_rfl
theorem laidOut : laidOutB Tryz.prog = true := by kernel_rfl
theorem lt_of_cell {w : World} {a : Addr} {v : Value} (h : w.cell? a = some v) : a.block < w.heap.size := by
  rcases Nat.lt_or_ge a.block w.heap.size with h1 | h1
  · exact h1
  · simp [World.cell?, Array.getElem?_eq_none h1] at h
theorem tlist4 {α : Type} {l : List α} (h : l.length = 4) : ∃ a b c d, l = [a, b, c, d] := by
  rcases l with _ | ⟨a, _ | ⟨b, _ | ⟨c, _ | ⟨d, l⟩⟩⟩⟩ <;> simp at h
  subst h; exact ⟨a, b, c, d, rfl⟩
theorem cellsTk : Tryz.prog.cellsOf 39 = 4 := by kernel_rfl
theorem cellsStr : Tryz.prog.cellsOf 9 = 1 := by kernel_rfl
theorem cellsInt : Tryz.prog.cellsOf 3 = 1 := by kernel_rfl
theorem cellsKd : Tryz.prog.cellsOf 37 = 1 := by kernel_rfl
theorem bulk_pos {H : Type} (d : DataW H) : 1 ≤ Rows.uptoBulk d := by
  cases d with
  | lit l => cases l <;> simp [Rows.uptoBulk]
  | nil => simp [Rows.uptoBulk]
  | ptr d => simp [Rows.uptoBulk]
  | slice e s => simp [Rows.uptoBulk]
  | agg p => simp [Rows.uptoBulk]
  | iface n d => simp [Rows.uptoBulk]
  | map e => simp [Rows.uptoBulk]
  | held h => simp [Rows.uptoBulk]
theorem bulk_len {H : Type} : ∀ l : List (DataW H), l.length ≤ Rows.uptoBulkAll l
  | [] => Nat.zero_le _
  | d :: l => by
    have := bulk_len l
    have h1 := bulk_pos d
    simp only [Rows.uptoBulkAll, List.length_cons]
    omega
theorem bulk_mem {H : Type} {d : DataW H} : ∀ {l : List (DataW H)}, d ∈ l → Rows.uptoBulk d ≤ Rows.uptoBulkAll l
  | [], h => by cases h
  | x :: l, h => by
    simp only [Rows.uptoBulkAll]
    rcases List.mem_cons.1 h with rfl | h
    · omega
    · have := bulk_mem h; omega
theorem toks_open {H : Type} {enc : TypeId × Value → H} {W : World} {fuel : Nat} {v : Value} {x : DataW H × List MemPlace} (h : DataW.trod enc Tryz.prog W 0 (fun _ => true) true fuel 31 [v] = some x) (hk : Rows.uptoBulk x.1 ≤ 1048576) :
    ∃ pp ts cp, v = .slice pp ts.length cp ∧ IRow W pp W.heap.size ts ∧ ts.length ≤ 1048576 ∧ ∀ t ∈ ts, t.nm.size ≤ 1048576 ∧ t.vl.size ≤ 1048576 := by
  rcases Go.Deep.open_slice Tryz.underlying31 h with ⟨hcs, hx⟩ | ⟨a, len, cap, m, n, D, Pl, hcs, _, hl, hm, hmm, hx, hel⟩
  · obtain rfl : v = .slice none 0 0 := by simpa using hcs
    exact ⟨none, [], 0, rfl, ⟨fun i t ht => by cases ht⟩, by decide, fun t ht => by cases ht⟩
  · obtain rfl : v = .slice (some a) len cap := by simpa using hcs
    simp only [if_true] at hmm
    subst m
    rw [cellsTk] at hel
    have he : x.1 = .slice ((List.range len).map D) ((List.range (cap - len)).map fun j => D (len + j)) := by rw [hx]
    rw [he] at hk
    simp only [Rows.uptoBulk] at hk
    have hlen := bulk_len ((List.range len).map D)
    rw [List.length_map, List.length_range] at hlen
    have one : ∀ i, i < len → ∃ t : IT, (W.cell? (a.add (i * 4)) = some (.int .i64 t.k) ∧ W.cell? (a.add (i * 4 + 1)) = some (.string t.nm) ∧ W.cell? (a.add (i * 4 + 2)) = some (.string t.vl) ∧ W.cell? (a.add (i * 4 + 3)) = some (.int .i64 t.p)) ∧ t.nm.size ≤ 1048576 ∧ t.vl.size ≤ 1048576 := by
      intro i hi
      obtain ⟨cs', hc, ht⟩ := hel i (by omega)
      obtain ⟨_, hlen4, hcell⟩ := World.cells?_some hc
      obtain ⟨c0, c1, c2, c3, rfl⟩ := tlist4 hlen4
      obtain ⟨ys, k, _, hx', _, hyl, hfl⟩ := DataW.trod_struct Tryz.underlying39 ht
      obtain ⟨⟨e0, q0⟩, ⟨e1, q1⟩, ⟨e2, q2⟩, ⟨e3, q3⟩, rfl⟩ := tlist4 hyl
      have f0 := hfl 0 _ rfl
      have f1 := hfl 1 _ rfl
      have f2 := hfl 2 _ rfl
      have f3 := hfl 3 _ rfl
      simp [cellsStr, cellsInt, cellsKd] at f0 f1 f2 f3
      obtain ⟨z0, h0, _⟩ := DataW.trod_int Tryz.underlying37 f0
      obtain ⟨s1, h1, r1⟩ := DataW.trod_string Tryz.underlying9 f1
      obtain ⟨s2, h2, r2⟩ := DataW.trod_string Tryz.underlying9 f2
      obtain ⟨z3, h3, _⟩ := DataW.trod_int Tryz.underlying3 f3
      simp only [List.cons.injEq, and_true] at h0 h1 h2 h3
      subst h0 h1 h2 h3
      have g0 := hcell 0 (by decide)
      have g1 := hcell 1 (by decide)
      have g2 := hcell 2 (by decide)
      have g3 := hcell 3 (by decide)
      rw [Go.Deep.add_add] at g0 g1 g2 g3
      have hD : D i = .agg [e0, e1, e2, e3] := by
        have := congrArg Prod.fst hx'
        simpa using this
      have hb := bulk_mem (List.mem_map.2 ⟨i, List.mem_range.2 hi, rfl⟩ : D i ∈ (List.range len).map D)
      rw [hD] at hb
      simp only [Rows.uptoBulk] at hb
      have b1 := bulk_mem (show e1 ∈ [e0, e1, e2, e3] by simp)
      have b2 := bulk_mem (show e2 ∈ [e0, e1, e2, e3] by simp)
      obtain rfl : e1 = .lit (.string s1.data.toList) := congrArg Prod.fst r1.1
      obtain rfl : e2 = .lit (.string s2.data.toList) := congrArg Prod.fst r2.1
      simp only [Rows.uptoBulk] at b1 b2
      rw [tl_len] at b1 b2
      exact ⟨⟨z0, s1, s2, z3⟩, ⟨g0, g1, g2, g3⟩, by show s1.size ≤ _; omega, by show s2.size ≤ _; omega⟩
    haveI : Inhabited IT := ⟨⟨0, ByteArray.empty, ByteArray.empty, 0⟩⟩
    obtain ⟨f, hf⟩ := Go.Deep.choose_lt one
    refine ⟨some a, (List.range len).map f, cap, by simp, ⟨fun i t ht => ?_⟩, by rw [List.length_map, List.length_range]; omega, fun t ht => ?_⟩
    · rw [List.getElem?_map] at ht
      by_cases hi : i < len
      · rw [List.getElem?_range hi] at ht
        cases ht
        obtain ⟨⟨h0, h1, h2, h3⟩, _⟩ := hf i hi
        obtain ⟨g, o, spot⟩ := a
        have hspot : spot = none := by simpa [Addr.add] using World.cell?_spot (hf 0 (by omega)).1.1
        subst hspot
        rw [addrI] at h0 h1 h2 h3
        exact ⟨g, o, rfl, lt_of_cell (a := ⟨g, o + i * 4, none⟩) h0, h0, h1, h2, h3⟩
      · rw [List.getElem?_eq_none (by simp; omega)] at ht
        cases ht
    · obtain ⟨i, hi, rfl⟩ := List.mem_map.1 ht
      exact (hf i (List.mem_range.1 hi)).2
set_option maxRecDepth 100000 in
set_option maxHeartbeats 2000000 in
theorem contract (H : Type) (enc : TypeId × Value → H) (W : World) (base : Nat) (args : Array Value) (ds gs : List (DataW H)) (before : List MemPlace)
    (hval : ∀ (j : Nat) t v, Tryz.f6.params[j]? = some t → args[j]? = some v → Value.okWide Tryz.prog W .any base t v)
    (hW : DataW.Whole enc Tryz.prog Tryz.f6.params.toList Rows.xmllexPrintsSpec.vars false W args.toList ds gs before) (hk : Rows.uptoSmall H (ds ++ gs) = true) (hL : laidMetH Tryz.prog laid6 W) (hsh : W.ShapedOpen Tryz.prog) :
    Calls Tryz.prog 6 args W fun e W' => ∃ v, e = .returned v ∧ Rows.xmllexPrintsSpec.post enc Tryz.prog Tryz.f6 false true false false W args v W' := by
  have hW' := hW
  obtain ⟨p, q, hA0, hV, rfl, hfz, hnd⟩ := hW
  have hA : DataW.TrodAll enc Tryz.prog W 0 (fun _ => true) true Tryz.f6.params.toList args.toList ds p := hA0
  rw [Tryz.params6] at hA hval
  obtain ⟨v0, d0, rfl, rfl, h0⟩ := trodAll_one hA
  obtain ⟨rfl, rfl⟩ := trodVars_none hV
  obtain ⟨a0, len, cap, rfl⟩ := okWide_slice Tryz.underlying31 (hval 0 31 v0 rfl rfl)
  have h0k := h0
  obtain ⟨fuel, hf⟩ := h0
  clear hA0
  simp only [List.append_nil] at hW'
  have hlt : ∀ x ∈ p, x.block < W.heap.size := fun x hx => by simpa using hW'.lt x hx
  have hbd : Rows.uptoBulk d0 ≤ 1048576 := by
    have h1 := of_decide_eq_true hk
    have e : Rows.uptoBulkAll ([d0] ++ []) = Rows.uptoBulk d0 + 0 := rfl
    rw [e] at h1
    omega
  have hf2 : DataW.trod enc Tryz.prog W 0 (fun _ => true) true fuel 31 [Value.slice a0 len cap] = some (d0, p) := by simpa [Value.cells] using hf
  obtain ⟨pp, ts, cp, hv, hrow, hlen, hok⟩ := toks_open (x := (d0, p)) hf2 hbd
  cases hv
  obtain ⟨hE, hS, h7⟩ := env_of_row hL hsh
  refine (Prints_any _ _ ts W hrow hlen hok hE hS h7).mono fun e W' ⟨he, hg⟩ => ?_
  subst he
  refine ⟨_, rfl, _, _, _, [], p, [], hW', ?_, ?_, ?_, hg.frame _, fun h => by cases h⟩
  · exact trodAll_cons_mk (shut_bool Tryz.underlying4 _) trodAll_mk0
  · exact trodAll_mk1 (Below.trod laidOut (by kernel_rfl) (of_decide_eq_true (by kernel_rfl)) h0k hg hlt)
  · rfl
theorem reads (os : Os) {H : Type} (enc : TypeId × Value → H) : ∃ places, DataW.whole enc Tryz.prog ((World.laidAll Tryz.prog os laid6).forCall (fun _ _ => 0) ⟨#[], #[.slice none 0 0], []⟩).memory Tryz.f6.params.toList Rows.xmllexPrintsSpec.vars false #[Value.slice none 0 0].toList 8 = some ([.nil], [], places) :=
  ⟨[], by kernel_rfl⟩
theorem met (os : Os) : laidMet Tryz.prog laid6 ((World.laidAll Tryz.prog os laid6).forCall (fun _ _ => 0) ⟨#[], #[.slice none 0 0], []⟩).memory := laidMet_laidAll _ (by kernel_rfl) (by kernel_rfl)
set_option maxRecDepth 100000 in
theorem lifted (os : Os) (started : os.Started) (H : Type) (enc : TypeId × Value → H) (F : Stop.Interp) :
    ReturnsInHanded {} Tryz.checked os 6 .any ((Rows.OpenSpec.upto Rows.xmllexPrintsSpec).preRow enc Tryz.prog Tryz.f6 Rows.xmllexPrintsUptoRow.domain false Rows.xmllexPrintsUptoRow.laid) (((Rows.OpenSpec.upto Rows.xmllexPrintsSpec).at F).post enc Tryz.prog Tryz.f6 false true false false) := by
  obtain ⟨places, hx⟩ := reads os enc
  refine returnsInHanded_of_row (C := Tryz.checked) (s := Rows.OpenSpec.upto Rows.xmllexPrintsSpec) own started (by kernel_rfl) Tryz.func6
    (witness_zip (enc := enc) (C := Tryz.checked) (World.laidAll Tryz.prog os laid6) #[.slice none 0 0] (World.laidAll_os _ _ _) (by kernel_rfl) (by kernel_rfl) (by kernel_rfl)
      (OpenSpec.preRow_of_cond 8 hx (by kernel_rfl) (fun k hk => by cases hk; kernel_rfl) (by kernel_rfl) (met os))) ?_
  intro W base args ds gs before hval hW _ hcond _ hL hsh _
  exact contract H enc W base args ds gs before hval hW (hcond _ rfl) hL hsh
theorem said : Rows.XmllexPrintsUptoSaid :=
  OpenClaim.holds_of_cond 6 Tryz.f6 rfl rfl rfl rfl rfl rfl rfl ⟨rfl, rfl, rfl, rfl, rfl⟩ rfl rfl rfl rfl rfl (by kernel_rfl) Tryz.func6 (by kernel_rfl)
    (of_decide_eq_true (by kernel_rfl)) (by unfold Func.isWrapper; first | (rw [if_pos (by decide +kernel)]; kernel_rfl) | (rw [if_neg (by decide +kernel)]; exact ⟨rfl, rfl⟩))
    (fun os started H enc _ F => by rw [OpenClaim.pre_eq_preRow]; exact lifted os started H enc F)
theorem plain (f : FuncId) (fn : Func) (hf : Tryz.pinned.checked.prog.funcNamed "stencil/stencillaw04.XmllexPrints" = some f) (hfn : Tryz.pinned.checked.prog.funcs[f]? = some fn) :
    true = Tryz.pinned.checked.prog.looks [] ∧ ∀ (j : Nat) t, fn.params[j]? = some t → Tryz.pinned.checked.prog.wantsStandIn t = false := by
  obtain rfl : f = 6 := Option.some.inj ((show Tryz.prog.funcNamed "stencil/stencillaw04.XmllexPrints" = some 6 by kernel_rfl).symm.trans hf) |>.symm
  obtain rfl : fn = Tryz.f6 := (Option.some.inj (Tryz.func6.symm.trans hfn)).symm
  refine ⟨by kernel_rfl, fun j t ht => ?_⟩
  rw [Tryz.params6] at ht
  obtain rfl : t = 31 := by simpa using Array.mem_of_getElem? ht
  exact (show Tryz.prog.wantsStandIn 31 = false by kernel_rfl)
end PrintsLaw

/-- The card of the second form. -/
theorem xmllexPrints_card : Rows.XmllexPrintsUptoCardSaid :=
  Claim7.holds_tied_plain_at .later [] _ _ _ _ PrintsLaw.said (fun _ h => by cases h) (by kernel_rfl) (fun _ h => by cases h) xmllexPrintsUpto_row_tie rfl ⟨rfl, rfl⟩ (by kernel_rfl) rfl PrintsLaw.plain (by kernel_rfl)
#print axioms xmllexPrints_card
end Go.Proofs.YtchfphakhmifmaaGreatDoor
