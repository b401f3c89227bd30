/- CuY, CpC. -/
import Derived.Test.YtgklippjoikadaaDoorRows
import Derived.Test.YtgklippjoikadaaDoorK01
import Derived.WalkKit
import Derived.ProofKit
import Derived.OpenShut
import Derived.Deep.DeepHandedRow
import Derived.Lib.LaidTab
import Derived.LaidMore
import Derived.Lay
import Derived.Stop.Joined
import Derived.Test.YtgklippjoikadaaDoorCards
import Derived.Test.YtgklippjoikadaaDoorTie
import Derived.Test.YtgklippjoikadaaDoorK35
import Derived.SevenTiedAt
namespace Go.Proofs.YtgklippjoikadaaDoor
open Go.ChangeShapes Go.WideShapes Go.ChangeAt Go.RowKit Go.Lib

abbrev laid1 : List (String × DataW Unit) := [("stencil/prim.kinds", Rows.laid_stencil_prim_kinds)]
theorem own : ownKnob Tryd.prog.godebug = none := by kernel_rfl
theorem laidOut : laidOutB Tryd.prog = true := by kernel_rfl
theorem gTab : Tryd.prog.globalNamed "stencil/prim.kinds" = some 0 := by kernel_rfl
theorem gTabType : (Tryd.prog.globals[0]?).map (·.type) = some 120 := by kernel_rfl
theorem cellsKs : Tryd.prog.cellsOf 120 = 55 := by kernel_rfl
theorem cellsK : Tryd.prog.cellsOf 106 = 5 := by kernel_rfl
theorem cellsKr : Tryd.prog.cellsOf 104 = 1 := by kernel_rfl
theorem cellsKu : Tryd.prog.cellsOf 38 = 1 := by kernel_rfl
theorem cellsKi : Tryd.prog.cellsOf 3 = 1 := by kernel_rfl
def kindD {H : Type} (p : Int) : DataW H := .agg [.lit (.int .i64 (sz p)), .lit (.int .i64 (rd p)), .lit (.int .u64 (nl p)), .lit (.int .u64 (mn p)), .lit (.int .u64 (mx p))]
theorem kindsD_eq {H : Type} : (Rows.laid_stencil_prim_kinds : DataW H) = .agg ((List.range 11).map fun i : Nat => kindD i) := by kernel_rfl
theorem klist5 {α : Type} {l : List α} (h : l.length = 5) : ∃ a b c d e, l = [a, b, c, d, e] := by
  rcases l with _ | ⟨a, _ | ⟨b, _ | ⟨c, _ | ⟨d, _ | ⟨e, l⟩⟩⟩⟩⟩ <;> simp at h
  subst h; exact ⟨a, b, c, d, e, rfl⟩
theorem klit_of {H : Type} {enc : TypeId × Value → H} {w : World} {base : Nat} {sp : Nat → Bool} {held : Bool} {fuel : Nat} {t : TypeId} {k : IntKind} {c : Value} {z : Int} {q : List MemPlace}
    (ht : Tryd.prog.underlying t = some (.int k)) (h : DataW.trod enc Tryd.prog w base sp held fuel t [c] = some (.lit (.int k z), q)) : c = .int k z := by
  obtain ⟨n, hc, hx, _⟩ := DataW.trod_int ht h
  simp at hc hx
  rw [hc, hx.1]
theorem kind_cells {H : Type} {enc : TypeId × Value → H} {w : World} {base : Nat} {sp : Nat → Bool} {held : Bool} {fuel : Nat} {cs : List Value} {p : Int} {q : List MemPlace}
    (h : DataW.trod enc Tryd.prog w base sp held fuel 106 cs = some (kindD p, q)) : cs = [.int .i64 (sz p), .int .i64 (rd p), .int .u64 (nl p), .int .u64 (mn p), .int .u64 (mx p)] := by
  obtain ⟨ys, n, _, hx, hl, hyl, hf⟩ := DataW.trod_struct Tryd.underlying106 h
  rw [cellsK] at hl
  obtain ⟨c0, c1, c2, c3, c4, rfl⟩ := klist5 hl
  obtain ⟨⟨d0, q0⟩, ⟨d1, q1⟩, ⟨d2, q2⟩, ⟨d3, q3⟩, ⟨d4, q4⟩, rfl⟩ := klist5 hyl
  have f0 := hf 0 _ rfl
  have f1 := hf 1 _ rfl
  have f2 := hf 2 _ rfl
  have f3 := hf 3 _ rfl
  have f4 := hf 4 _ rfl
  simp [cellsKi, cellsKr, cellsKu] at f0 f1 f2 f3 f4
  simp [kindD] at hx
  obtain ⟨⟨rfl, rfl, rfl, rfl, rfl⟩, _⟩ := hx
  rw [klit_of Tryd.underlying3 f0, klit_of Tryd.underlying104 f1, klit_of Tryd.underlying38 f2, klit_of Tryd.underlying38 f3, klit_of Tryd.underlying38 f4]
theorem kt_of_laid {W : World} (h : laidMetH Tryd.prog laid1 W) : KT W := by
  have h' : laidMet Tryd.prog laid1 W := h
  obtain ⟨ps, ⟨g', t', cs, fuel, p, q, hg', ht', hvar, hd, _, _⟩, _⟩ := h'
  obtain rfl := Option.some.inj (gTab.symm.trans hg')
  obtain rfl := Option.some.inj (gTabType.symm.trans ht')
  rw [kindsD_eq] at hd
  have hpos : ∀ (g : Nat) (o : Nat) (v : Value), W.cell? ⟨g, o, none⟩ = some v → g < W.heap.size := fun g o v hc => by
    rcases Nat.lt_or_ge g W.heap.size with h1 | h1
    · exact h1
    · simp [World.cell?, Array.getElem?_eq_none h1] at hc
  obtain ⟨xs, m, _, hx, hl, hxl, hf⟩ := DataW.trod_array Tryd.underlying120 hd
  rw [cellsKs] at hl
  have hxs : xs.map (·.1) = (List.range 11).map fun i : Nat => (kindD i : DataW Unit) := by
    have := congrArg Prod.fst hx
    simpa using this.symm
  have row : ∀ i : Nat, i < 11 → (cs.toList.drop (i * 5)).take 5 = [.int .i64 (sz i), .int .i64 (rd i), .int .u64 (nl i), .int .u64 (mn i), .int .u64 (mx i)] := by
    intro i hi
    have h1 := hf i hi
    rw [cellsK] at h1
    have h2 : (xs.map (·.1))[i]? = some (kindD i) := by rw [hxs]; simp [hi]
    simp only [List.getElem?_map, Option.map_eq_some_iff] at h2
    obtain ⟨⟨d, q'⟩, h3, rfl⟩ := h2
    rw [h3] at h1
    exact kind_cells h1
  have cell : ∀ (i j : Nat) (v : Value), i < 11 → j < 5 → ([.int .i64 (sz i), .int .i64 (rd i), .int .u64 (nl i), .int .u64 (mn i), .int .u64 (mx i)] : List Value)[j]? = some v → W.cell? ⟨0, 5 * i + j, none⟩ = some v := by
    intro i j v hi hj hv
    have := World.var?_cell gTab hvar (5 * i + j)
    rw [this]
    rw [← row i hi] at hv
    simp [hj] at hv
    simpa [Nat.mul_comm] using hv
  exact ⟨hpos _ _ _ (cell 0 0 _ (by omega) (by omega) rfl), fun i hi => cell i 0 _ hi (by omega) rfl, fun i hi => cell i 1 _ hi (by omega) rfl, fun i hi => cell i 2 _ hi (by omega) rfl, fun i hi => cell i 3 _ hi (by omega) rfl, fun i hi => cell i 4 _ hi (by omega) rfl⟩
/-- 'There is an input that fits', at a world in which the table is laid. -/
theorem witness_zip {H : Type} {enc : TypeId × Value → H} {C : Checked} {os : Os} {f : FuncId} {fn : Func} {s : OpenSpec} {conds : List PathCond} {apart : Bool} {laid : List (String × DataW Unit)} (w0 : World) (args : Array Value) (hos : w0.os = os)
    (hv : (w0.forCall (fun _ _ => 0) ⟨#[], args, []⟩).variablesZipB C.prog = true)
    (hr : ((w0.forCall (fun _ _ => 0) ⟨#[], args, []⟩).heap.toList.drop C.prog.globals.size).take ((begin C.prog (fun _ _ => 0) default).world.heap.size - C.prog.globals.size) =
      (begin C.prog (fun _ _ => 0) default).world.heap.toList.drop C.prog.globals.size)
    (hok : Input.okWideB C.prog (w0.forCall (fun _ _ => 0) ⟨#[], args, []⟩) f ⟨#[], args, []⟩ = true)
    (hrow : s.preRow enc C.prog fn conds apart laid (w0.forCall (fun _ _ => 0) ⟨#[], args, []⟩).memory args) :
    ∃ (w : World) (tape : Tape) (i : Input), w.os = os ∧ (w.forCall tape i).Shaped C.prog ∧ i.vars = [] ∧ Input.okWide C.prog (w.forCall tape i) .any w.heap.size f i ∧
      s.preRow enc C.prog fn conds apart laid (w.forCall tape i).memory i.args ∧ ({} : Assume).holds C.prog (lone (Frame.enter C.prog f i.args .normal) [] (w.forCall tape i)) :=
  ⟨w0, fun _ _ => 0, ⟨#[], args, []⟩, hos, World.shaped_of_ZipB hv hr, (Input.okWide_of_okWideB (base := 0) hok).1, (Input.okWide_of_okWideB hok).2, hrow, by
    simp only [Assume.holds]
    exact ⟨by simp, by simp, fun _ => Modest.zero, by simp, by simp⟩⟩
end Go.Proofs.YtgklippjoikadaaDoor
namespace Go.Proofs.YtgklippjoikadaaDoor
namespace PlaysLaw
open Go.ChangeShapes Go.WideShapes Go.ChangeAt Go.RowKit Go.ChangeMaps

abbrev zArgs : Array Value := #[.slice none 0 0, .int .i64 0, .bool false, .slice none 0 0]
set_option maxRecDepth 100000 in
theorem contract (H : Type) (enc : TypeId × Value → H) (W : World) (base : Nat) (args : Array Value) (ds gs : List (DataW H)) (before : List MemPlace)
    (hval : ∀ (j : Nat) t v, Tryd.f3.params[j]? = some t → args[j]? = some v → Value.okWide Tryd.prog W .any base t v)
    (hW : DataW.Whole enc Tryd.prog Tryd.f3.params.toList Rows.cursorPlaysSpec.vars false W args.toList ds gs before) (hwt : (DataW.weightsEach Tryd.prog (Tryd.f3.params.toList ++ Rows.cursorPlaysSpec.plain.varTypes Tryd.prog) (ds ++ gs)).all (· ≤ reachBytes) = true) (hL : laidMetH Tryd.prog laid1 W) :
    Calls Tryd.prog 3 args W fun e W' => ∃ v, e = .returned v ∧ Rows.cursorPlaysSpec.post enc Tryd.prog Tryd.f3 false true false false W args v W' := by
  have hW' := hW
  obtain ⟨p, q, hA0, hV, rfl, hfz, hnd⟩ := hW
  have hA : DataW.TrodAll enc Tryd.prog W 0 (fun _ => true) true Tryd.f3.params.toList args.toList ds p := hA0
  have hwt' := hwt
  rw [Tryd.params3] at hA hval hwt'
  obtain ⟨v0, vs0, d0, ds0, p0, q0, hargs, rfl, rfl, h0, r0⟩ := trodAll_cons hA
  obtain ⟨v1, vs1, d1, ds1, p1, q1, rfl, rfl, rfl, h1, r1⟩ := trodAll_cons r0
  obtain ⟨v2, vs2, d2, ds2, p2, q2, rfl, rfl, rfl, h2, r2⟩ := trodAll_cons r1
  obtain ⟨v3, vs3, d3, ds3, p3, q3, rfl, rfl, rfl, h3, r3⟩ := trodAll_cons r2
  obtain ⟨rfl, rfl, rfl⟩ := trodAll_nil r3
  obtain rfl : args = #[v0, v1, v2, v3] := by cases args; simp_all
  obtain ⟨rfl, rfl⟩ := trodVars_none hV
  have k0 := h0
  have k1 := h1
  have k2 := h2
  have k3 := h3
  obtain ⟨fu0, hf0⟩ := h0
  obtain ⟨ad0, ln0, cc0, rfl⟩ := okWide_slice Tryd.underlying22 (hval 0 22 v0 rfl rfl)
  have hcs0 : (Value.slice ad0 ln0 cc0).cells.toList = [Value.slice ad0 ln0 cc0] := rfl
  rw [hcs0] at hf0
  have hw0 : (d0.weights Tryd.prog 22).all (· ≤ reachBytes) = true := List.all_eq_true.2 fun n hn => List.all_eq_true.1 hwt' n (by
    simp only [DataW.weightsEach, List.cons_append, List.mem_append]
    exact .inl hn)
  obtain ⟨a, L, C, bi, hes0, hA1, hbi, hLb⟩ := bytes_open hf0 hw0
  obtain ⟨a1, rfl, rfl, rfl, w1⟩ := open_int Tryd.underlying3 (hval 1 3 v1 rfl rfl) h1
  have b1 := bounds_i64 w1
  obtain ⟨a2, rfl, rfl, rfl⟩ := open_bool Tryd.underlying4 (hval 2 4 v2 rfl rfl) h2
  obtain ⟨fu3, hf3⟩ := h3
  obtain ⟨ad3, ln3, cc3, rfl⟩ := okWide_slice Tryd.underlying23 (hval 3 23 v3 rfl rfl)
  have hcs3 : (Value.slice ad3 ln3 cc3).cells.toList = [Value.slice ad3 ln3 cc3] := rfl
  rw [hcs3] at hf3
  have hw3 : (d3.weights Tryd.prog 23).all (· ≤ reachBytes) = true := List.all_eq_true.2 fun n hn => List.all_eq_true.1 hwt' n (by
    simp only [DataW.weightsEach, List.cons_append, List.mem_append]
    exact .inr (.inr (.inr (.inl hn))))
  obtain ⟨ps, ops, cp, hes3, hO⟩ := ops_open hf3 hw3
  have kt := kt_of_laid hL
  simp only [List.append_nil] at hW'
  have hlt0 : ∀ x ∈ p0, x.block < W.heap.size := fun x hx => by simpa using hW'.lt x (by simp [hx])
  have hlt3 : ∀ x ∈ p3, x.block < W.heap.size := fun x hx => by simpa using hW'.lt x (by simp [hx])
  rw [hes0] at k0 hW' ⊢
  rw [hes3] at k3 hW' ⊢
  refine (Plays_any a L C bi a1 a2 ps ops cp W kt hA1 hbi hLb hO).mono fun e W' ⟨he, hg⟩ => ?_
  subst he
  refine ⟨_, rfl, _, _, _, [], p0 ++ p3, [], by simpa using hW', ?_, ?_, ?_, hg.frame _, fun h => by cases h⟩
  · exact trodAll_cons_mk (shut_bool Tryd.underlying4 _) trodAll_mk0
  · have := trodAll_cons_mk (Below.trod laidOut (by kernel_rfl) (of_decide_eq_true (by kernel_rfl)) k0 hg hlt0) (trodAll_cons_mk (shut_int (w := W') Tryd.underlying3 w1) (trodAll_cons_mk (shut_bool (w := W') Tryd.underlying4 a2) (trodAll_cons_mk (Below.trod laidOut (by kernel_rfl) (of_decide_eq_true (by kernel_rfl)) k3 hg hlt3) trodAll_mk0)))
    simp only [List.append_nil, List.nil_append] at this
    first | exact this | simpa using this
  · rfl
theorem reads (os : Os) {H : Type} (enc : TypeId × Value → H) : ∃ places, DataW.whole enc Tryd.prog ((World.laidAll Tryd.prog os laid1).forCall (fun _ _ => 0) ⟨#[], zArgs, []⟩).memory Tryd.f3.params.toList Rows.cursorPlaysSpec.vars false zArgs.toList 8 = some ([.nil, .lit (.int .i64 0), .lit (.bool false), .nil], [], places) :=
  ⟨[], by kernel_rfl⟩
theorem met (os : Os) : laidMet Tryd.prog laid1 ((World.laidAll Tryd.prog os laid1).forCall (fun _ _ => 0) ⟨#[], zArgs, []⟩).memory := laidMet_laidAll _ (by kernel_rfl) (by kernel_rfl)
set_option maxRecDepth 100000 in
theorem lifted (os : Os) (started : os.Started) (H : Type) (enc : TypeId × Value → H) (F : Stop.Interp) :
    ReturnsInHanded {} Tryd.checked os 3 .any ((OpenSpec.ofChange Rows.cursorPlaysSpec).preRow enc Tryd.prog Tryd.f3 Rows.cursorPlaysRow.domain false Rows.cursorPlaysRow.laid) (((OpenSpec.ofChange Rows.cursorPlaysSpec).at F).post enc Tryd.prog Tryd.f3 false true false false) := by
  obtain ⟨places, hx⟩ := reads os enc
  refine returnsInHanded_of_row (C := Tryd.checked) (s := OpenSpec.ofChange Rows.cursorPlaysSpec) own started (by kernel_rfl) Tryd.func3
    (witness_zip (enc := enc) (C := Tryd.checked) (World.laidAll Tryd.prog os laid1) zArgs (World.laidAll_os _ _ _) (by kernel_rfl) (by kernel_rfl) (by kernel_rfl)
      (OpenSpec.preRow_of_cond 8 hx (by kernel_rfl) (fun k hk => by cases hk) (by kernel_rfl) (met os))) ?_
  intro W base args ds gs before hval hW _ _ hwt hL _ _
  exact contract H enc W base args ds gs before hval hW hwt hL
theorem said : Rows.CursorPlaysSaid :=
  OpenClaim.holds_of_cond 3 Tryd.f3 rfl rfl rfl rfl rfl rfl rfl ⟨rfl, rfl, rfl, rfl, rfl⟩ rfl rfl rfl rfl rfl (by kernel_rfl) Tryd.func3 (by kernel_rfl)
    (of_decide_eq_true (by kernel_rfl)) (by unfold Func.isWrapper; first | (rw [if_pos (by decide +kernel)]; kernel_rfl) | (rw [if_neg (by decide +kernel)]; exact ⟨rfl, rfl⟩))
    (fun os started H enc _ F => by rw [OpenClaim.pre_eq_preRow]; exact lifted os started H enc F)
theorem plain (f : FuncId) (fn : Func) (hf : Tryd.pinned.checked.prog.funcNamed "stencil/stencillaw17.CursorPlays" = some f) (hfn : Tryd.pinned.checked.prog.funcs[f]? = some fn) :
    false = Tryd.pinned.checked.prog.looks [] ∧ ∀ (j : Nat) t, fn.params[j]? = some t → Tryd.pinned.checked.prog.wantsStandIn t = false := by
  obtain rfl : f = 3 := Option.some.inj ((show Tryd.prog.funcNamed "stencil/stencillaw17.CursorPlays" = some 3 by kernel_rfl).symm.trans hf) |>.symm
  obtain rfl : fn = Tryd.f3 := (Option.some.inj (Tryd.func3.symm.trans hfn)).symm
  refine ⟨by kernel_rfl, fun j t ht => ?_⟩
  rw [Tryd.params3] at ht
  have h : t = 22 ∨ t = 3 ∨ t = 4 ∨ t = 23 := by
    have := Array.mem_of_getElem? ht
    simpa using this
  rcases h with rfl | rfl | rfl | rfl
  · exact (show Tryd.prog.wantsStandIn 22 = false by kernel_rfl)
  · exact (show Tryd.prog.wantsStandIn 3 = false by kernel_rfl)
  · exact (show Tryd.prog.wantsStandIn 4 = false by kernel_rfl)
  · exact (show Tryd.prog.wantsStandIn 23 = false by kernel_rfl)
end PlaysLaw

/-- The card. -/
theorem cursorPlays_card : Rows.CursorPlaysCardSaid :=
  Claim7.holds_tied_plain_at .later [] _ _ _ _ PlaysLaw.said (fun _ h => by cases h) (by kernel_rfl) (fun _ h => by cases h) cursorPlays_row_tie rfl ⟨rfl, rfl⟩ (by kernel_rfl) rfl PlaysLaw.plain (by kernel_rfl)
#print axioms cursorPlays_card
end Go.Proofs.YtgklippjoikadaaDoor
