/- A list of elements al a law is handed it. -/
import Derived.Test.YtchfphakhmifmaaTMem
import Derived.Deep.Slices
import Derived.SizedLaws
namespace Go.Proofs.Ytchfphakhmifmaa
open Go.ChangeShapes Go.WideShapes Go.ChangeAt Go.RowKit

theorem lt_of_cell {w : World} {a : Addr} {v : Value} (h : w.cell? a = some v) : a.block < w.heap.size := by
  rcases Nat.lt_or_ge a.block w.heap.size with h1 | h1
  · exact h1
  · simp [World.cell?, Array.getElem?_eq_none h1] at h
theorem tlist3 {α : Type} {l : List α} (h : l.length = 3) : ∃ a b c, l = [a, b, c] := by
  rcases l with _ | ⟨a, _ | ⟨b, _ | ⟨c, l⟩⟩⟩ <;> simp at h
  subst h; exact ⟨a, b, c, rfl⟩
theorem tlist5 {α : Type} {l : List α} (h : l.length = 5) : ∃ a b c d e, l = [a, b, c, d, e] := by
  rcases l with _ | ⟨a, _ | ⟨b, _ | ⟨c, _ | ⟨d, _ | ⟨e, l⟩⟩⟩⟩⟩ <;> simp at h
  subst h; exact ⟨a, b, c, d, e, rfl⟩
theorem cellsAt : Try.prog.cellsOf 35 = 3 := by kernel_rfl
theorem cellsEl : Try.prog.cellsOf 32 = 5 := by kernel_rfl
theorem cellsAs : Try.prog.cellsOf 30 = 1 := by kernel_rfl
theorem cellsStr : Try.prog.cellsOf 9 = 1 := by kernel_rfl
theorem cellsInt : Try.prog.cellsOf 3 = 1 := by kernel_rfl
theorem bytesAt : Try.prog.bytesOf 35 = 40 := by kernel_rfl
theorem bytesEl : Try.prog.bytesOf 32 = 72 := by kernel_rfl
theorem addr_at (g o k : Nat) : (⟨g, o, none⟩ : Addr).add k = ⟨g, o + k, none⟩ := by unfold Addr.add; split <;> simp_all
theorem weightsAll_mem {H : Type} {P : Program} {e : TypeId} {d : DataW H} {n : Nat} (hn : n ∈ d.weights P e) : ∀ {l : List (DataW H)}, d ∈ l → n ∈ DataW.weightsAll P e l
  | [], h => by cases h
  | x :: r, h => by
    simp only [DataW.weightsAll, List.mem_append]
    rcases List.mem_cons.1 h with rfl | h
    · exact .inl hn
    · exact .inr (weightsAll_mem hn h)


theorem attrs_open {H : Type} {enc : TypeId × Value → H} {W : World} {fuel : Nat} {v : Value} {x : DataW H × List MemPlace} (h : DataW.trod enc Try.prog W 0 (fun _ => true) true fuel 30 [v] = some x) :
    ∃ pa al ca, v = .slice pa al.length ca ∧ ARow W pa W.heap.size al ∧ ((x.1.weights Try.prog 30).all (· ≤ reachBytes) = true → al.length * 40 ≤ 140737488351232) := by
  rcases Go.Deep.open_slice Try.underlying30 h with ⟨hcs, hx⟩ | ⟨a, len, cap, m, n, D, Pl, hcs, _, hl, hm, hmm, hx, hel⟩
  · obtain rfl : v = .slice none 0 0 := by simpa using hcs
    exact ⟨none, [], 0, rfl, ⟨fun i t ht => by cases ht⟩, fun _ => by decide⟩
  · obtain rfl : v = .slice (some a) len cap := by simpa using hcs
    simp only [if_true] at hmm
    subst m
    rw [cellsAt] at hel
    have one : ∀ i, i < len → ∃ t : Att, W.cell? (a.add (i * 3)) = some (.string t.nm) ∧ W.cell? (a.add (i * 3 + 1)) = some (.string t.vl) ∧ W.cell? (a.add (i * 3 + 2)) = some (.int .i64 t.p) := by
      intro i hi
      obtain ⟨cs', hc, ht⟩ := hel i (by omega)
      obtain ⟨_, hlen, hcell⟩ := World.cells?_some hc
      obtain ⟨c0, c1, c2, rfl⟩ := tlist3 hlen
      obtain ⟨ys, k, _, hx', _, hyl, hfl⟩ := DataW.trod_struct Try.underlying35 ht
      obtain ⟨⟨e0, q0⟩, ⟨e1, q1⟩, ⟨e2, q2⟩, rfl⟩ := tlist3 hyl
      have f0 := hfl 0 _ rfl
      have f1 := hfl 1 _ rfl
      have f2 := hfl 2 _ rfl
      simp [cellsStr, cellsInt] at f0 f1 f2
      obtain ⟨s0, h0, _⟩ := DataW.trod_string Try.underlying9 f0
      obtain ⟨s1, h1, _⟩ := DataW.trod_string Try.underlying9 f1
      obtain ⟨z2, h2, _⟩ := DataW.trod_int Try.underlying3 f2
      simp only [List.cons.injEq, and_true] at h0 h1 h2
      subst h0 h1 h2
      have g0 := hcell 0 (by decide)
      have g1 := hcell 1 (by decide)
      have g2 := hcell 2 (by decide)
      rw [Go.Deep.add_add] at g0 g1 g2
      exact ⟨⟨s0, s1, z2⟩, g0, g1, g2⟩
    haveI : Inhabited Att := ⟨⟨ByteArray.empty, ByteArray.empty, 0⟩⟩
    obtain ⟨f, hf⟩ := Go.Deep.choose_lt one
    refine ⟨some a, (List.range len).map f, cap, by simp, ⟨fun i t ht => ?_⟩, fun hw => ?_⟩
    · rw [List.getElem?_map] at ht
      by_cases hi : i < len
      · rw [List.getElem?_range hi] at ht
        cases ht
        obtain ⟨h0, h1, h2⟩ := hf i hi
        obtain ⟨g, o, spot⟩ := a
        have hspot : spot = none := by simpa [Addr.add] using World.cell?_spot (hf 0 (by omega)).1
        subst hspot
        rw [addr_at] at h0 h1 h2
        exact ⟨g, o, rfl, lt_of_cell (a := ⟨g, o + i * 3, none⟩) h0, h0, h1, h2⟩
      · rw [List.getElem?_eq_none (by simp; omega)] at ht
        cases ht
    · have he : x.1 = .slice ((List.range len).map D) ((List.range (cap - len)).map fun j => D (len + j)) := by rw [hx]
      rw [he] at hw
      have h2 := List.all_eq_true.1 hw (((List.range len).map D).length + ((List.range (cap - len)).map fun j => D (len + j)).length |> (· * Try.prog.bytesOf 35)) (by simp [DataW.weights, Try.underlying30])
      rw [bytesAt] at h2
      simp [reachBytes] at h2
      rw [List.length_map, List.length_range]
      omega
/-- What is asked of a list's sizes. -/
def EOk (es : List El) : Prop := es.length * 72 ≤ 140737488351232 ∧ ∀ e ∈ es, e.ats.length * 40 ≤ 140737488351232 ∧ -9223372036854775808 ≤ e.d ∧ e.d ≤ 9223372036854775807
theorem elems_open {H : Type} {enc : TypeId × Value → H} {W : World} {fuel : Nat} {v : Value} {x : DataW H × List MemPlace} (h : DataW.trod enc Try.prog W 0 (fun _ => true) true fuel 22 [v] = some x)
    (hw : (x.1.weights Try.prog 22).all (· ≤ reachBytes) = true) :
    ∃ pp es cp, v = .slice pp es.length cp ∧ ERow W pp W.heap.size es ∧ EOk es := by
  rcases Go.Deep.open_slice Try.underlying22 h with ⟨hcs, hx⟩ | ⟨a, len, cap, m, n, D, Pl, hcs, _, hl, hm, hmm, hx, hel⟩
  · obtain rfl : v = .slice none 0 0 := by simpa using hcs
    exact ⟨none, [], 0, rfl, ⟨fun i t ht => by cases ht⟩, by decide, fun e he => by cases he⟩
  · obtain rfl : v = .slice (some a) len cap := by simpa using hcs
    simp only [if_true] at hmm
    subst m
    rw [cellsEl] at hel
    have he : x.1 = .slice ((List.range len).map D) ((List.range (cap - len)).map fun j => D (len + j)) := by rw [hx]
    rw [he] at hw
    have hwl := List.all_eq_true.1 hw (((List.range len).map D).length + ((List.range (cap - len)).map fun j => D (len + j)).length |> (· * Try.prog.bytesOf 32)) (by simp [DataW.weights, Try.underlying22])
    rw [bytesEl] at hwl
    simp [reachBytes] at hwl
    have one : ∀ i, i < len → ∃ t : El, ∃ pa ca, W.cell? (a.add (i * 5)) = some (.int .i64 t.d) ∧ W.cell? (a.add (i * 5 + 1)) = some (.string t.nm) ∧ W.cell? (a.add (i * 5 + 2)) = some (.slice pa t.ats.length ca) ∧ W.cell? (a.add (i * 5 + 3)) = some (.string t.tx) ∧ W.cell? (a.add (i * 5 + 4)) = some (.int .i64 t.p) ∧ ARow W pa W.heap.size t.ats ∧
        t.ats.length * 40 ≤ 140737488351232 ∧ -9223372036854775808 ≤ t.d ∧ t.d ≤ 9223372036854775807 := by
      intro i hi
      obtain ⟨cs', hc, ht⟩ := hel i (by omega)
      obtain ⟨_, hlen, hcell⟩ := World.cells?_some hc
      obtain ⟨c0, c1, c2, c3, c4, rfl⟩ := tlist5 hlen
      obtain ⟨ys, k, _, hx', _, hyl, hfl⟩ := DataW.trod_struct Try.underlying32 ht
      obtain ⟨⟨e0, q0⟩, ⟨e1, q1⟩, ⟨e2, q2⟩, ⟨e3, q3⟩, ⟨e4, q4⟩, rfl⟩ := tlist5 hyl
      have f0 := hfl 0 _ rfl
      have f1 := hfl 1 _ rfl
      have f2 := hfl 2 _ rfl
      have f3 := hfl 3 _ rfl
      have f4 := hfl 4 _ rfl
      simp [cellsStr, cellsInt, cellsAs] at f0 f1 f2 f3 f4
      obtain ⟨z0, h0, _, b0⟩ := DataW.trod_int Try.underlying3 f0
      obtain ⟨s1, h1, _⟩ := DataW.trod_string Try.underlying9 f1
      obtain ⟨s3, h3, _⟩ := DataW.trod_string Try.underlying9 f3
      obtain ⟨z4, h4, _⟩ := DataW.trod_int Try.underlying3 f4
      obtain ⟨pa, al, ca, h2, hA, hwt⟩ := attrs_open f2
      simp only [List.cons.injEq, and_true] at h0 h1 h3 h4
      subst h0 h1 h2 h3 h4
      have g0 := hcell 0 (by decide)
      have g1 := hcell 1 (by decide)
      have g2 := hcell 2 (by decide)
      have g3 := hcell 3 (by decide)
      have g4 := hcell 4 (by decide)
      rw [Go.Deep.add_add] at g0 g1 g2 g3 g4
      have bb := bounds_i64 b0
      refine ⟨⟨z0, s1, al, s3, z4⟩, pa, ca, g0, g1, g2, g3, g4, hA, hwt ?_, by show _ ≤ z0; omega, by show z0 ≤ _; omega⟩
      refine List.all_eq_true.2 fun nn hnn => List.all_eq_true.1 hw nn ?_
      have hD : D i = .agg [e0, e1, e2, e3, e4] := by
        have := congrArg Prod.fst hx'
        simpa using this
      have hm1 : nn ∈ (D i).weights Try.prog 32 := by
        rw [hD]
        simp only [DataW.weights, Try.underlying32]
        exact DataW.weights_mem_each (j := 2) rfl rfl nn hnn
      simp only [DataW.weights, Try.underlying22, List.mem_cons, List.mem_append]
      exact .inr (.inl (weightsAll_mem hm1 (List.mem_map.2 ⟨i, List.mem_range.2 hi, rfl⟩)))
    haveI : Inhabited El := ⟨⟨0, ByteArray.empty, [], ByteArray.empty, 0⟩⟩
    obtain ⟨f, hf⟩ := Go.Deep.choose_lt one
    refine ⟨some a, (List.range len).map f, cap, by simp, ⟨fun i t ht => ?_⟩, ?_, fun e he => ?_⟩
    · rw [List.getElem?_map] at ht
      by_cases hi : i < len
      · rw [List.getElem?_range hi] at ht
        cases ht
        obtain ⟨pa, ca, h0, h1, h2, h3, h4, h5, _⟩ := hf i hi
        obtain ⟨g, o, spot⟩ := a
        have hspot : spot = none := by
          obtain ⟨_, _, h00, _⟩ := hf 0 (by omega)
          simpa [Addr.add] using World.cell?_spot h00
        subst hspot
        rw [addr_at] at h0 h1 h2 h3 h4
        exact ⟨g, o, pa, ca, rfl, lt_of_cell (a := ⟨g, o + i * 5, none⟩) h0, h0, h1, h2, h3, h4, h5⟩
      · rw [List.getElem?_eq_none (by simp; omega)] at ht
        cases ht
    · rw [List.length_map, List.length_range]; omega
    · obtain ⟨i, hi, rfl⟩ := List.mem_map.1 he
      obtain ⟨_, _, _, _, _, _, _, _, h6, h7⟩ := hf i (List.mem_range.1 hi)
      exact ⟨h6, h7⟩
end Go.Proofs.Ytchfphakhmifmaa
