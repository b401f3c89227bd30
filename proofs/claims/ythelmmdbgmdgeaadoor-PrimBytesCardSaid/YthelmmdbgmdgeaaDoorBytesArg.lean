/- What the law PrimBytes is handed. -/
import Derived.Test.YthelmmdbgmdgeaaDoorAppends
import Derived.Test.YthelmmdbgmdgeaaDoorLaid
namespace Go.Proofs.YthelmmdbgmdgeaaDoor
open Go.ChangeShapes Go.WideShapes Go.ChangeAt Go.RowKit

theorem cells40 : Tryd.prog.cellsOf 40 = 7 := by kernel_rfl
theorem cells30 : Tryd.prog.cellsOf 30 = 1 := by kernel_rfl
theorem cells22 : Tryd.prog.cellsOf 22 = 1 := by kernel_rfl
theorem cells33 : Tryd.prog.cellsOf 33 = 1 := by kernel_rfl
theorem cells9 : Tryd.prog.cellsOf 9 = 1 := by kernel_rfl
theorem cells5 : Tryd.prog.cellsOf 5 = 1 := by kernel_rfl
theorem bytes5 : Tryd.prog.bytesOf 5 = 1 := by kernel_rfl
theorem list7 {α : Type} {l : List α} (h : l.length = 7) : ∃ a b c d e f g, l = [a, b, c, d, e, f, g] := by
  rcases l with _ | ⟨a, _ | ⟨b, _ | ⟨c, _ | ⟨d, _ | ⟨e, _ | ⟨f, _ | ⟨g, l⟩⟩⟩⟩⟩⟩⟩ <;> simp at h
  subst h; exact ⟨a, b, c, d, e, f, g, rfl⟩
theorem arr7 {α : Type} {l : Array α} (h : l.size = 7) : ∃ a b c d e f g, l = #[a, b, c, d, e, f, g] := by
  obtain ⟨a, b, c, d, e, f, g, hl⟩ := list7 (l := l.toList) (by simpa using h)
  exact ⟨a, b, c, d, e, f, g, Array.ext' hl⟩
/-- What the law's one argument is. -/
theorem bytes_open {H : Type} {enc : TypeId × Value → H} {W : World} {base : Nat} {v0 : Value} {d0 : DataW H} {p0 : List MemPlace}
    (hv : Value.okWide Tryd.prog W .any base 40 v0) (h0 : DataW.Trod enc Tryd.prog W 0 (fun _ => true) true 40 v0 d0 p0) :
    ∃ (a : Option Addr) (L C : Nat) (at' n p o x : Int) (t : ByteArray) (bi : Nat → Int) (s0 : DataW H) (rest : List (DataW H)), v0 = .agg #[.slice a L C, .int .i64 at', .int .i64 n, .int .i64 p, .int .i64 o, .int .u64 x, .string t] ∧ Arg W a L bi ∧
      (∀ j, 0 ≤ bi j ∧ bi j ≤ 255) ∧ n ≤ 9223372036854775807 ∧ 0 ≤ x ∧ x < 18446744073709551616 ∧ d0 = .agg (s0 :: rest) ∧ ((s0.weights Tryd.prog 30).all (· ≤ reachBytes) = true → L + 4096 ≤ 140737488355328) := by
  obtain ⟨cs, rfl, hsz⟩ := okWide_struct Tryd.underlying40 hv
  rw [cells40] at hsz
  obtain ⟨c0, c1, c2, c3, c4, c5, c6, rfl⟩ := arr7 hsz
  obtain ⟨fuel, hf⟩ := h0
  obtain ⟨ys, m, _, hx, _, hyl, hfl⟩ := DataW.trod_struct Tryd.underlying40 hf
  obtain ⟨⟨e0, q0⟩, ⟨e1, q1⟩, ⟨e2, q2⟩, ⟨e3, q3⟩, ⟨e4, q4⟩, ⟨e5, q5⟩, ⟨e6, q6⟩, rfl⟩ := list7 hyl
  have f0 := hfl 0 _ rfl
  have f1 := hfl 1 _ rfl
  have f2 := hfl 2 _ rfl
  have f3 := hfl 3 _ rfl
  have f4 := hfl 4 _ rfl
  have f5 := hfl 5 _ rfl
  have f6 := hfl 6 _ rfl
  simp [cells3, cells30, cells22, cells23, cells33, cells9, Value.cells] at f0 f1 f2 f3 f4 f5 f6
  obtain ⟨z1, hc1, _, w1⟩ := DataW.trod_int Tryd.underlying3 f1
  obtain ⟨z2, hc2, _, w2⟩ := DataW.trod_int Tryd.underlying3 f2
  obtain ⟨z3, hc3, _, w3⟩ := DataW.trod_int Tryd.underlying22 f3
  obtain ⟨z4, hc4, _, w4⟩ := DataW.trod_int Tryd.underlying33 f4
  obtain ⟨z5, hc5, _, w5⟩ := DataW.trod_int Tryd.underlying23 f5
  obtain ⟨t, hc6, _⟩ := DataW.trod_string Tryd.underlying9 f6
  simp only [List.cons.injEq, and_true] at hc1 hc2 hc3 hc4 hc5 hc6
  subst hc1 hc2 hc3 hc4 hc5 hc6
  have hd0 : d0 = .agg (e0 :: [e1, e2, e3, e4, e5, e6]) := by
    have := congrArg Prod.fst hx
    simpa using this
  have b2 := bounds_i64 w2
  have b5 := bounds_u64 w5
  rcases open_ints Tryd.underlying30 Tryd.underlying5 cells5 f0 with ⟨hcs, hx0⟩ | ⟨ad, len, cap, zs, hcs, _, hl, hm, hz, hx0, hcell, hwz⟩
  · simp only [List.cons.injEq, and_true] at hcs
    subst hcs
    exact ⟨none, 0, 0, z1, z2, z3, z4, z5, t, fun _ => 0, e0, _, rfl, ⟨fun _ => rfl, (fun ad h => by cases h)⟩, fun _ => ⟨by simp, by simp⟩, b2.2, b5.1, by omega, hd0, fun _ => by decide⟩
  · simp only [List.cons.injEq, and_true] at hcs
    subst hcs
    simp at hz
    have hr := range_u8 hwz
    refine ⟨some ad, len, cap, z1, z2, z3, z4, z5, t, fun j => zs.getD j 0, e0, _, rfl, ⟨(fun h => by cases h), (fun ad' h j hj => by cases h; exact hcell j (by omega))⟩, fun j => by simpa [List.getD] using hr j, b2.2, b5.1, by omega, hd0, fun hwt => ?_⟩
    have he0 : e0 = .slice (lits .u8 (zs.take len)) (lits .u8 (zs.drop len)) := congrArg Prod.fst hx0
    subst he0
    have h2 := List.all_eq_true.1 hwt (((lits (H := H) .u8 (zs.take len)).length + (lits (H := H) .u8 (zs.drop len)).length) * Tryd.prog.bytesOf 5) (by simp [DataW.weights, Tryd.underlying30])
    rw [bytes5] at h2
    simp [lits, reachBytes] at h2
    omega
end Go.Proofs.YthelmmdbgmdgeaaDoor
