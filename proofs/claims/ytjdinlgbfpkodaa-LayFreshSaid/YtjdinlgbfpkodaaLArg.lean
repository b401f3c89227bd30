/- Lists that are handed in, opened. -/
import Derived.Test.YtjdinlgbfpkodaaLMem
import Derived.Deep.Slices
import Derived.SizedLaws
namespace Go.Proofs.Ytjdinlgbfpkodaa
open Go.ChangeShapes Go.WideShapes Go.ChangeAt Go.RowKit

theorem lt_of_cell {w : World} {a : Addr} {v : Value} (h : w.cell? a = some v) : a.block < w.heap.size := by
  rcases Nat.lt_or_ge a.block w.heap.size with h1 | h1
  · exact h1
  · simp [World.cell?, Array.getElem?_eq_none h1] at h
theorem tlist1 {α : Type} {l : List α} (h : l.length = 1) : ∃ a, l = [a] := by
  rcases l with _ | ⟨a, l⟩ <;> simp at h
  subst h; exact ⟨a, rfl⟩
theorem tlist2 {α : Type} {l : List α} (h : l.length = 2) : ∃ a b, l = [a, b] := by
  rcases l with _ | ⟨a, _ | ⟨b, l⟩⟩ <;> simp at h
  subst h; exact ⟨a, b, rfl⟩
theorem cellsRm : Try.prog.cellsOf 35 = 2 := by kernel_rfl
theorem cellsSd : Try.prog.cellsOf 53 = 2 := by kernel_rfl
theorem cellsInt : Try.prog.cellsOf 3 = 1 := by kernel_rfl
theorem bytesRm : Try.prog.bytesOf 35 = 16 := by kernel_rfl
theorem bytesSd : Try.prog.bytesOf 53 = 16 := by kernel_rfl
theorem bytesInt : Try.prog.bytesOf 3 = 8 := by kernel_rfl
theorem rooms_open {H : Type} {enc : TypeId × Value → H} {W : World} {fuel : Nat} {v : Value} {x : DataW H × List MemPlace} (h : DataW.trod enc Try.prog W 0 (fun _ => true) true fuel 23 [v] = some x)
    (hw : (x.1.weights Try.prog 23).all (· ≤ reachBytes) = true) :
    ∃ pp es cp, v = .slice pp es.length cp ∧ RmRow W pp W.heap.size es ∧ es.length * 16 ≤ 140737488351232 ∧ ∀ e ∈ es, e.ok := by
  rcases Go.Deep.open_slice Try.underlying23 h with ⟨hcs, hx⟩ | ⟨a, len, cap, m, n, D, Pl, hcs, _, hl, hm, hmm, hx, hel⟩
  · obtain rfl : v = .slice none 0 0 := by simpa using hcs
    exact ⟨none, [], 0, rfl, ⟨fun i t ht => by cases ht⟩, by decide, fun e he => by cases he⟩
  · obtain rfl : v = .slice (some a) len cap := by simpa using hcs
    simp only [if_true] at hmm
    subst m
    rw [cellsRm] at hel
    have he : x.1 = .slice ((List.range len).map D) ((List.range (cap - len)).map fun j => D (len + j)) := by rw [hx]
    rw [he] at hw
    have hwl := List.all_eq_true.1 hw (((List.range len).map D).length + ((List.range (cap - len)).map fun j => D (len + j)).length |> (· * Try.prog.bytesOf 35)) (by simp [DataW.weights, Try.underlying23])
    rw [bytesRm] at hwl
    simp [reachBytes] at hwl
    have one : ∀ i, i < len → ∃ t : Rm, W.cell? (a.add (i * 2)) = some (.int .i64 t.sz) ∧ W.cell? (a.add (i * 2 + 1)) = some (.int .i64 t.of) ∧ t.ok := by
      intro i hi
      obtain ⟨cs', hc, ht⟩ := hel i (by omega)
      obtain ⟨_, hlen, hcell⟩ := World.cells?_some hc
      obtain ⟨c0, c1, rfl⟩ := tlist2 hlen
      obtain ⟨ys, k, _, hx', _, hyl, hfl⟩ := DataW.trod_struct Try.underlying35 ht
      obtain ⟨⟨e0, q0⟩, ⟨e1, q1⟩, rfl⟩ := tlist2 hyl
      have f0 := hfl 0 _ rfl
      have f1 := hfl 1 _ rfl
      simp [cellsInt] at f0 f1
      obtain ⟨z0, h0, _, b0⟩ := DataW.trod_int Try.underlying3 f0
      obtain ⟨z1, h1, _, b1⟩ := DataW.trod_int Try.underlying3 f1
      simp only [List.cons.injEq, and_true] at h0 h1
      subst h0 h1
      have g0 := hcell 0 (by decide)
      have g1 := hcell 1 (by decide)
      rw [Go.Deep.add_add] at g0 g1
      have bb := bounds_i64 b0
      have bc := bounds_i64 b1
      exact ⟨⟨z0, z1⟩, g0, g1, ⟨by unfold i64ok; dsimp only; omega, by unfold i64ok; dsimp only; omega⟩⟩
    haveI : Inhabited Rm := ⟨⟨0, 0⟩⟩
    obtain ⟨f, hf⟩ := Go.Deep.choose_lt one
    refine ⟨some a, (List.range len).map f, cap, by simp, ⟨fun i t ht => ?_⟩, ?_, fun e he => ?_⟩
    · rw [List.getElem?_map] at ht
      by_cases hi : i < len
      · rw [List.getElem?_range hi] at ht
        cases ht
        obtain ⟨h0, h1, _⟩ := hf i hi
        obtain ⟨g, o, spot⟩ := a
        have hspot : spot = none := by simpa [Addr.add] using World.cell?_spot (hf 0 (by omega)).1
        subst hspot
        rw [addrL] at h0 h1
        exact ⟨g, o, rfl, lt_of_cell (a := ⟨g, o + i * 2, none⟩) h0, h0, h1⟩
      · rw [List.getElem?_eq_none (by simp; omega)] at ht
        cases ht
    · rw [List.length_map, List.length_range]; omega
    · obtain ⟨i, hi, rfl⟩ := List.mem_map.1 he
      exact (hf i (List.mem_range.1 hi)).2.2
theorem seeds_open {H : Type} {enc : TypeId × Value → H} {W : World} {fuel : Nat} {v : Value} {x : DataW H × List MemPlace} (h : DataW.trod enc Try.prog W 0 (fun _ => true) true fuel 22 [v] = some x)
    (hw : (x.1.weights Try.prog 22).all (· ≤ reachBytes) = true) :
    ∃ pp es cp, v = .slice pp es.length cp ∧ RmRow W pp W.heap.size es ∧ es.length * 16 ≤ 140737488351232 ∧ ∀ e ∈ es, e.ok := by
  rcases Go.Deep.open_slice Try.underlying22 h with ⟨hcs, hx⟩ | ⟨a, len, cap, m, n, D, Pl, hcs, _, hl, hm, hmm, hx, hel⟩
  · obtain rfl : v = .slice none 0 0 := by simpa using hcs
    exact ⟨none, [], 0, rfl, ⟨fun i t ht => by cases ht⟩, by decide, fun e he => by cases he⟩
  · obtain rfl : v = .slice (some a) len cap := by simpa using hcs
    simp only [if_true] at hmm
    subst m
    rw [cellsSd] at hel
    have he : x.1 = .slice ((List.range len).map D) ((List.range (cap - len)).map fun j => D (len + j)) := by rw [hx]
    rw [he] at hw
    have hwl := List.all_eq_true.1 hw (((List.range len).map D).length + ((List.range (cap - len)).map fun j => D (len + j)).length |> (· * Try.prog.bytesOf 53)) (by simp [DataW.weights, Try.underlying22])
    rw [bytesSd] at hwl
    simp [reachBytes] at hwl
    have one : ∀ i, i < len → ∃ t : Rm, W.cell? (a.add (i * 2)) = some (.int .i64 t.sz) ∧ W.cell? (a.add (i * 2 + 1)) = some (.int .i64 t.of) ∧ t.ok := by
      intro i hi
      obtain ⟨cs', hc, ht⟩ := hel i (by omega)
      obtain ⟨_, hlen, hcell⟩ := World.cells?_some hc
      obtain ⟨c0, c1, rfl⟩ := tlist2 hlen
      obtain ⟨ys, k, _, hx', _, hyl, hfl⟩ := DataW.trod_struct Try.underlying53 ht
      obtain ⟨⟨e0, q0⟩, ⟨e1, q1⟩, rfl⟩ := tlist2 hyl
      have f0 := hfl 0 _ rfl
      have f1 := hfl 1 _ rfl
      simp [cellsInt] at f0 f1
      obtain ⟨z0, h0, _, b0⟩ := DataW.trod_int Try.underlying3 f0
      obtain ⟨z1, h1, _, b1⟩ := DataW.trod_int Try.underlying3 f1
      simp only [List.cons.injEq, and_true] at h0 h1
      subst h0 h1
      have g0 := hcell 0 (by decide)
      have g1 := hcell 1 (by decide)
      rw [Go.Deep.add_add] at g0 g1
      have bb := bounds_i64 b0
      have bc := bounds_i64 b1
      exact ⟨⟨z0, z1⟩, g0, g1, ⟨by unfold i64ok; dsimp only; omega, by unfold i64ok; dsimp only; omega⟩⟩
    haveI : Inhabited Rm := ⟨⟨0, 0⟩⟩
    obtain ⟨f, hf⟩ := Go.Deep.choose_lt one
    refine ⟨some a, (List.range len).map f, cap, by simp, ⟨fun i t ht => ?_⟩, ?_, fun e he => ?_⟩
    · rw [List.getElem?_map] at ht
      by_cases hi : i < len
      · rw [List.getElem?_range hi] at ht
        cases ht
        obtain ⟨h0, h1, _⟩ := hf i hi
        obtain ⟨g, o, spot⟩ := a
        have hspot : spot = none := by simpa [Addr.add] using World.cell?_spot (hf 0 (by omega)).1
        subst hspot
        rw [addrL] at h0 h1
        exact ⟨g, o, rfl, lt_of_cell (a := ⟨g, o + i * 2, none⟩) h0, h0, h1⟩
      · rw [List.getElem?_eq_none (by simp; omega)] at ht
        cases ht
    · rw [List.length_map, List.length_range]; omega
    · obtain ⟨i, hi, rfl⟩ := List.mem_map.1 he
      exact (hf i (List.mem_range.1 hi)).2.2
theorem ints_open {H : Type} {enc : TypeId × Value → H} {W : World} {fuel : Nat} {v : Value} {x : DataW H × List MemPlace} (h : DataW.trod enc Try.prog W 0 (fun _ => true) true fuel 24 [v] = some x)
    (hw : (x.1.weights Try.prog 24).all (· ≤ reachBytes) = true) :
    ∃ pp es cp, v = .slice pp es.length cp ∧ ZRow W pp W.heap.size es ∧ es.length * 8 ≤ 140737488351232 ∧ ∀ e ∈ es, i64ok e := by
  rcases Go.Deep.open_slice Try.underlying24 h with ⟨hcs, hx⟩ | ⟨a, len, cap, m, n, D, Pl, hcs, _, hl, hm, hmm, hx, hel⟩
  · obtain rfl : v = .slice none 0 0 := by simpa using hcs
    exact ⟨none, [], 0, rfl, ⟨fun i t ht => by cases ht⟩, by decide, fun e he => by cases he⟩
  · obtain rfl : v = .slice (some a) len cap := by simpa using hcs
    simp only [if_true] at hmm
    subst m
    rw [cellsInt] at hel
    have he : x.1 = .slice ((List.range len).map D) ((List.range (cap - len)).map fun j => D (len + j)) := by rw [hx]
    rw [he] at hw
    have hwl := List.all_eq_true.1 hw (((List.range len).map D).length + ((List.range (cap - len)).map fun j => D (len + j)).length |> (· * Try.prog.bytesOf 3)) (by simp [DataW.weights, Try.underlying24])
    rw [bytesInt] at hwl
    simp [reachBytes] at hwl
    have one : ∀ i, i < len → ∃ t : Int, W.cell? (a.add i) = some (.int .i64 t) ∧ i64ok t := by
      intro i hi
      obtain ⟨cs', hc, ht⟩ := hel i (by omega)
      obtain ⟨_, hlen, hcell⟩ := World.cells?_some hc
      obtain ⟨c0, rfl⟩ := tlist1 hlen
      obtain ⟨z0, h0, _, b0⟩ := DataW.trod_int Try.underlying3 ht
      simp only [List.cons.injEq, and_true] at h0
      subst h0
      have g0 := hcell 0 (by decide)
      rw [Go.Deep.add_add, Nat.mul_one] at g0
      have bb := bounds_i64 b0
      exact ⟨z0, g0, by unfold i64ok; omega⟩
    obtain ⟨f, hf⟩ := Go.Deep.choose_lt one
    refine ⟨some a, (List.range len).map f, cap, by simp, ⟨fun i t ht => ?_⟩, ?_, fun e he => ?_⟩
    · rw [List.getElem?_map] at ht
      by_cases hi : i < len
      · rw [List.getElem?_range hi] at ht
        cases ht
        obtain ⟨h0, _⟩ := hf i hi
        obtain ⟨g, o, spot⟩ := a
        have hspot : spot = none := by simpa [Addr.add] using World.cell?_spot (hf 0 (by omega)).1
        subst hspot
        rw [addrL] at h0
        exact ⟨g, o, rfl, lt_of_cell (a := ⟨g, o + i, none⟩) h0, h0⟩
      · rw [List.getElem?_eq_none (by simp; omega)] at ht
        cases ht
    · rw [List.length_map, List.length_range]; omega
    · obtain ⟨i, hi, rfl⟩ := List.mem_map.1 he
      exact (hf i (List.mem_range.1 hi)).2
end Go.Proofs.Ytjdinlgbfpkodaa
