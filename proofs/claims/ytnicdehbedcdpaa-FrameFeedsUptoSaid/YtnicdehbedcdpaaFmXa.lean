/- What is handed in: a parcel. -/
import Derived.Test.YtnicdehbedcdpaaRows
import Derived.Test.YtnicdehbedcdpaaFmA
import Derived.Deep.Slices
import Derived.SizedLaws
import Derived.ChangeMaps5
namespace Go.Proofs.Ytnicdehbedcdpaa
namespace FrLaw
open Go.ChangeShapes Go.WideShapes Go.ChangeAt Go.RowKit Go.ChangeMaps

theorem tlist2 {α : Type} {l : List α} (h : l.length = 2) : ∃ a b, l = [a, b] := by
  rcases l with _ | ⟨a, _ | ⟨b, l⟩⟩ <;> simp at h
  subst h; exact ⟨a, b, rfl⟩
theorem cellsPc : Try.prog.cellsOf 36 = 2 := by kernel_rfl
theorem cellsStr : Try.prog.cellsOf 9 = 1 := by kernel_rfl
theorem cellsInt : Try.prog.cellsOf 3 = 1 := by kernel_rfl
/-- One parcel's cells. -/
theorem pcl_cells {H : Type} {enc : TypeId × Value → H} {W : World} {fuel : Nat} {cs : List Value} {x : DataW H × List MemPlace} (hlen : cs.length = 2) (h : DataW.trod enc Try.prog W 0 (fun _ => true) true fuel 36 cs = some x) :
    ∃ p : Pcl, cs = [.int .i64 p.t, .string p.b] ∧ x.1 = .agg [.lit (.int .i64 p.t), .lit (.string p.b.data.toList)] ∧ (Lit.int .i64 p.t).wf = true := by
  obtain ⟨c0, c1, rfl⟩ := tlist2 hlen
  obtain ⟨ys, k, _, hx', _, hyl, hfl⟩ := DataW.trod_struct Try.underlying36 h
  obtain ⟨⟨e0, q0⟩, ⟨e1, q1⟩, rfl⟩ := tlist2 hyl
  have f0 := hfl 0 _ rfl
  have f1 := hfl 1 _ rfl
  simp [cellsStr, cellsInt] at f0 f1
  obtain ⟨z0, h0, r0, b0⟩ := DataW.trod_int Try.underlying3 f0
  obtain ⟨s1, h1, r1⟩ := DataW.trod_string Try.underlying9 f1
  simp only [List.cons.injEq, and_true] at h0 h1
  subst h0 h1
  have hD : x.1 = .agg [e0, e1] := by
    have := congrArg Prod.fst hx'
    simpa using this
  refine ⟨⟨z0, s1⟩, rfl, ?_, b0⟩
  rw [hD, show e0 = _ from congrArg Prod.fst r0, show e1 = _ from congrArg Prod.fst r1.1]
theorem pcl_open {H : Type} {enc : TypeId × Value → H} {W : World} {fuel : Nat} {v : Value} {x : DataW H × List MemPlace} {r : Reach} {b0 : Nat} (hv : Value.okWide Try.prog W r b0 36 v) (h : DataW.trod enc Try.prog W 0 (fun _ => true) true fuel 36 v.cells.toList = some x) :
    ∃ p : Pcl, v = .agg #[.int .i64 p.t, .string p.b] ∧ x.1 = .agg [.lit (.int .i64 p.t), .lit (.string p.b.data.toList)] ∧ (Lit.int .i64 p.t).wf = true := by
  obtain ⟨cs, rfl⟩ : ∃ cs, v = .agg cs := by
    unfold Value.okWide at hv
    rw [Try.underlying36] at hv
    obtain ⟨cs, e, _⟩ := hv
    exact ⟨cs, e⟩
  have hcs : (Value.agg cs).cells.toList = cs.toList := rfl
  rw [hcs] at h
  have hlen : cs.toList.length = 2 := by
    obtain ⟨ys, k, _, hx', hlen, hyl, hfl⟩ := DataW.trod_struct Try.underlying36 h
    rw [cellsPc] at hlen
    exact hlen
  obtain ⟨p, h1, h2, h3⟩ := pcl_cells hlen h
  exact ⟨p, by rw [← Array.toArray_toList (xs := cs), h1], h2, h3⟩
end FrLaw
end Go.Proofs.Ytnicdehbedcdpaa
