/- The law FrameChunks: the row, lifted. -/
import Derived.Test.YtnicdehbedcdpaaRows
import Derived.Test.YtnicdehbedcdpaaFmZ
import Derived.Test.YtnicdehbedcdpaaFmXb
import Derived.JoinedCond
import Derived.ChangeMaps5
namespace Go.Proofs.Ytnicdehbedcdpaa
namespace FrameChunksLaw
open Go.ChangeShapes Go.WideShapes Go.ChangeAt Go.RowKit FrLaw
open Go.ChangeMaps (open_string shut_string)

theorem own : ownKnob Try.prog.godebug = none := by kernel_rfl
theorem laidOut : laidOutB Try.prog = true := by kernel_rfl
set_option maxRecDepth 100000 in
theorem lifted (os : Os) (started : os.Started) (H : Type) (enc : TypeId × Value → H) :
    ReturnsInHanded {} Try.checked os 3 .any (Rows.frameChunksSpec.pre6 enc Try.prog Try.f3 Rows.frameChunksRow.domain false) (Rows.frameChunksSpec.post enc Try.prog Try.f3 false true false false) := by
  refine returnsInHanded_of_change_sized (C := Try.checked) own started (by kernel_rfl) Try.func3
    (ChangeSpec.witness6 (enc := enc) (C := Try.checked) false ⟨#[], #[.slice none 0 0, .slice none 0 0], []⟩ 8 (by kernel_rfl) (by kernel_rfl) (by kernel_rfl) (by kernel_rfl)) ?_
  intro W base args ds gs before hval0 hW hcnd hwt _
  have hval : ∀ (j : Nat) t v, Try.f3.params[j]? = some t → args[j]? = some v → Value.okWide Try.prog W .any base t v := hval0
  have hW' := hW
  obtain ⟨p, q, hA0, hV, rfl, hfz, hnd⟩ := hW
  have hA : DataW.TrodAll enc Try.prog W 0 (fun _ => true) true Try.f3.params.toList args.toList ds p := hA0
  have hwt' : (DataW.weightsEach Try.prog (Try.f3.params.toList ++ Rows.frameChunksSpec.plain.varTypes Try.prog) (ds ++ gs)).all (· ≤ reachBytes) = true := hwt
  rw [Try.params3] at hA hval hwt'
  obtain ⟨v0, vs0, d0, ds0, p0, q0, hargs, rfl, rfl, h0, r0⟩ := trodAll_cons hA
  obtain ⟨v1, vs1, d1, ds1, p1, q1, rfl, rfl, rfl, h1, r1⟩ := trodAll_cons r0
  obtain ⟨rfl, rfl, rfl⟩ := trodAll_nil r1
  obtain rfl : args = #[v0, v1] := by cases args; simp_all
  obtain ⟨rfl, rfl⟩ := trodVars_none hV
  have h0k := h0
  have h1k := h1
  obtain ⟨fuel0, hf0⟩ := h0
  obtain ⟨ad0, ln0, cc0, rfl⟩ := okWide_slice Try.underlying22 (hval 0 22 v0 rfl rfl)
  have hcs0 : (Value.slice ad0 ln0 cc0).cells.toList = [Value.slice ad0 ln0 cc0] := rfl
  rw [hcs0] at hf0
  have hw0 : (d0.weights Try.prog 22).all (· ≤ reachBytes) = true := List.all_eq_true.2 fun n hn => List.all_eq_true.1 hwt' n (by
    simp only [DataW.weightsEach, List.cons_append, List.mem_append]
    exact .inl hn)
  obtain ⟨pp0, a0, cp0, hes0, hE0, hk0⟩ := parcels_open hf0 hw0
  obtain ⟨fuel1, hf1⟩ := h1
  obtain ⟨ad1, ln1, cc1, rfl⟩ := okWide_slice Try.underlying23 (hval 1 23 v1 rfl rfl)
  have hcs1 : (Value.slice ad1 ln1 cc1).cells.toList = [Value.slice ad1 ln1 cc1] := rfl
  rw [hcs1] at hf1
  have hw1 : (d1.weights Try.prog 23).all (· ≤ reachBytes) = true := List.all_eq_true.2 fun n hn => List.all_eq_true.1 hwt' n (by
    simp only [DataW.weightsEach, List.cons_append, List.mem_append]
    exact .inr (.inl hn))
  obtain ⟨pp1, a1, cp1, hes1, hE1, hk1⟩ := ints_open hf1 hw1
  clear hA0
  simp only [List.append_nil] at hW'
  have hlt0 : ∀ x ∈ p0, x.block < W.heap.size := fun x hx => by simpa using hW'.lt x (by simp [hx])
  have hlt1 : ∀ x ∈ p1, x.block < W.heap.size := fun x hx => by simpa using hW'.lt x (by simp [hx])
  rw [hes0] at h0k hW' ⊢
  rw [hes1] at h1k hW' ⊢
  refine (Chunks_any a0 pp0 pp1 cp0 cp1 a1 W hE0 (by omega) hE1 (by omega) hk1.2).mono fun e W' ⟨he, hg⟩ => ?_
  subst he
  refine ⟨_, rfl, _, _, _, [], (p0 ++ p1), [], by simpa using hW', ?_, ?_, ?_, hg.frame _, fun h => by cases h⟩
  · exact trodAll_cons_mk (shut_bool Try.underlying4 _) trodAll_mk0
  · have := trodAll_cons_mk (Below.trod laidOut (by kernel_rfl) (of_decide_eq_true (by kernel_rfl)) h0k hg hlt0) (trodAll_cons_mk (Below.trod laidOut (by kernel_rfl) (of_decide_eq_true (by kernel_rfl)) h1k hg hlt1) trodAll_mk0)
    simp only [List.append_nil] at this
    exact this
  · rfl
theorem over : Rows.frameChunksRow.holds Try.pinned (OpenSpec.ofChange Rows.frameChunksSpec) :=
  OpenClaim.holds_of_wide 3 Try.f3 rfl rfl rfl rfl rfl rfl rfl ⟨rfl, rfl, rfl, rfl, rfl⟩ rfl rfl rfl rfl rfl (by kernel_rfl) Try.func3 (by kernel_rfl)
    (of_decide_eq_true (by kernel_rfl)) (by unfold Func.isWrapper; first | (rw [if_pos (by decide +kernel)]; kernel_rfl) | (rw [if_neg (by decide +kernel)]; exact ⟨rfl, rfl⟩))
    (fun os started H enc _ => lifted os started H enc)
end FrameChunksLaw
/-- The law. -/
theorem frameChunks_said : Rows.FrameChunksSaid := FrameChunksLaw.over
#print axioms frameChunks_said
end Go.Proofs.Ytnicdehbedcdpaa
