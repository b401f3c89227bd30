/- What is handed in: lists. -/
import Derived.Test.YtnicdehbedcdpaaFmXa
import Derived.Deep.DeepHandedRow
namespace Go.Proofs.Ytnicdehbedcdpaa
/-- Whole numbers in memory. -/
structure ZR (w : Go.World) (pp : Option Go.Addr) (H : Nat) (l : List Int) : Prop where
  c : ∀ (i : Nat) (t : Int), l[i]? = some t → ∃ g o, pp = some ⟨g, o, none⟩ ∧ g < H ∧ w.cell? ⟨g, o + i, none⟩ = some (.int .i64 t)
namespace FrLaw
open Go.ChangeShapes Go.WideShapes Go.ChangeAt Go.RowKit Go.ChangeMaps

theorem tlist1 {α : Type} {l : List α} (h : l.length = 1) : ∃ a, l = [a] := by
  rcases l with _ | ⟨a, l⟩ <;> simp at h
  subst h; exact ⟨a, rfl⟩
theorem lt_of_cell {w : World} {a : Addr} {v : Value} (h : w.cell? a = some v) : a.block < w.heap.size := by
  rcases Nat.lt_or_ge a.block w.heap.size with h1 | h1
  · exact h1
  · simp [World.cell?, Array.getElem?_eq_none h1] at h
theorem bytesPc : Try.prog.bytesOf 36 = 24 := by kernel_rfl
theorem bytesInt : Try.prog.bytesOf 3 = 8 := by kernel_rfl
theorem str_w {H : Type} {s : ByteArray} (hw : ((DataW.lit (.string s.data.toList) : DataW H).weights Try.prog 9).all (· ≤ reachBytes) = true) : s.size ≤ 140737488351232 := by
  have h1 := List.all_eq_true.1 hw s.size (by show s.size ∈ [s.data.toList.length]; rw [Array.length_toList]; exact List.mem_singleton.2 rfl)
  exact of_decide_eq_true h1
theorem parcels_open {H : Type} {enc : TypeId × Value → H} {W : World} {fuel : Nat} {v : Value} {x : DataW H × List MemPlace} (h : DataW.trod enc Try.prog W 0 (fun _ => true) true fuel 22 [v] = some x)
    (hw : (x.1.weights Try.prog 22).all (· ≤ reachBytes) = true) :
    ∃ pp es cp, v = .slice pp es.length cp ∧ PRow W pp W.heap.size es ∧ es.length * 24 ≤ 140737488351232 := by
  rcases Go.Deep.open_slice Try.underlying22 h with ⟨hcs, hx⟩ | ⟨a, len, cap, m, n, D, Pl, hcs, _, hl, hm, hmm, hx, hel⟩
  · obtain rfl : v = .slice none 0 0 := by simpa using hcs
    exact ⟨none, [], 0, rfl, PRow.nil _ _ _, by decide⟩
  · obtain rfl : v = .slice (some a) len cap := by simpa using hcs
    simp only [if_true] at hmm
    subst m
    rw [cellsPc] at hel
    have he : x.1 = .slice ((List.range len).map D) ((List.range (cap - len)).map fun j => D (len + j)) := by rw [hx]
    rw [he] at hw
    have hwl := List.all_eq_true.1 hw (((List.range len).map D).length + ((List.range (cap - len)).map fun j => D (len + j)).length |> (· * Try.prog.bytesOf 36)) (by simp [DataW.weights, Try.underlying22])
    rw [bytesPc] at hwl
    simp [reachBytes] at hwl
    have one : ∀ i, i < len → ∃ t : Pcl, W.cell? (a.add (i * 2)) = some (.int .i64 t.t) ∧ W.cell? (a.add (i * 2 + 1)) = some (.string t.b) := by
      intro i hi
      obtain ⟨cs', hc, ht⟩ := hel i (by omega)
      obtain ⟨_, hlen, hcell⟩ := World.cells?_some hc
      obtain ⟨p, rfl, _, _⟩ := pcl_cells hlen ht
      have g0 := hcell 0 (by decide)
      have g1 := hcell 1 (by decide)
      rw [Go.Deep.add_add] at g0 g1
      exact ⟨p, g0, g1⟩
    haveI : Inhabited Pcl := ⟨⟨0, ByteArray.empty⟩⟩
    obtain ⟨f, hf⟩ := Go.Deep.choose_lt one
    refine ⟨some a, (List.range len).map f, cap, by simp, ⟨fun i t ht => ?_⟩, by rw [List.length_map, List.length_range]; omega⟩
    rw [List.getElem?_map] at ht
    by_cases hi : i < len
    · rw [List.getElem?_range hi] at ht
      cases ht
      obtain ⟨h0, h1⟩ := hf i hi
      obtain ⟨g, o, spot⟩ := a
      have hspot : spot = none := by simpa [Addr.add] using World.cell?_spot (hf 0 (by omega)).1
      subst hspot
      rw [addrP] at h0 h1
      exact ⟨g, o, rfl, lt_of_cell (a := ⟨g, o + i * 2, none⟩) h0, h0, h1⟩
    · rw [List.getElem?_eq_none (by simp; omega)] at ht
      cases ht
theorem ints_open {H : Type} {enc : TypeId × Value → H} {W : World} {fuel : Nat} {v : Value} {x : DataW H × List MemPlace} (h : DataW.trod enc Try.prog W 0 (fun _ => true) true fuel 23 [v] = some x)
    (hw : (x.1.weights Try.prog 23).all (· ≤ reachBytes) = true) :
    ∃ pp es cp, v = .slice pp es.length cp ∧ ZR W pp W.heap.size es ∧ es.length * 8 ≤ 140737488351232 ∧ ∀ e ∈ es, -9223372036854775808 ≤ e ∧ e ≤ 9223372036854775807 := by
  rcases Go.Deep.open_slice Try.underlying23 h with ⟨hcs, hx⟩ | ⟨a, len, cap, m, n, D, Pl, hcs, _, hl, hm, hmm, hx, hel⟩
  · obtain rfl : v = .slice none 0 0 := by simpa using hcs
    exact ⟨none, [], 0, rfl, ⟨fun i t ht => by cases ht⟩, by decide, fun e he => by cases he⟩
  · obtain rfl : v = .slice (some a) len cap := by simpa using hcs
    simp only [if_true] at hmm
    subst m
    rw [cellsInt] at hel
    have he : x.1 = .slice ((List.range len).map D) ((List.range (cap - len)).map fun j => D (len + j)) := by rw [hx]
    rw [he] at hw
    have hwl := List.all_eq_true.1 hw (((List.range len).map D).length + ((List.range (cap - len)).map fun j => D (len + j)).length |> (· * Try.prog.bytesOf 3)) (by simp [DataW.weights, Try.underlying23])
    rw [bytesInt] at hwl
    simp [reachBytes] at hwl
    have one : ∀ i, i < len → ∃ t : Int, W.cell? (a.add i) = some (.int .i64 t) ∧ (-9223372036854775808 ≤ t ∧ t ≤ 9223372036854775807) := by
      intro i hi
      obtain ⟨cs', hc, ht⟩ := hel i (by omega)
      obtain ⟨_, hlen, hcell⟩ := World.cells?_some hc
      obtain ⟨c0, rfl⟩ := tlist1 hlen
      obtain ⟨z0, h0, _, b0⟩ := DataW.trod_int Try.underlying3 ht
      simp only [List.cons.injEq, and_true] at h0
      subst h0
      have g0 := hcell 0 (by decide)
      rw [Go.Deep.add_add, Nat.mul_one] at g0
      have bb := bounds_i64 b0
      exact ⟨z0, g0, by omega⟩
    obtain ⟨f, hf⟩ := Go.Deep.choose_lt one
    refine ⟨some a, (List.range len).map f, cap, by simp, ⟨fun i t ht => ?_⟩, ?_, fun e he => ?_⟩
    · rw [List.getElem?_map] at ht
      by_cases hi : i < len
      · rw [List.getElem?_range hi] at ht
        cases ht
        obtain ⟨h0, _⟩ := hf i hi
        obtain ⟨g, o, spot⟩ := a
        have hspot : spot = none := by simpa [Addr.add] using World.cell?_spot (hf 0 (by omega)).1
        subst hspot
        rw [addrP] at h0
        exact ⟨g, o, rfl, lt_of_cell (a := ⟨g, o + i, none⟩) h0, h0⟩
      · rw [List.getElem?_eq_none (by simp; omega)] at ht
        cases ht
    · rw [List.length_map, List.length_range]; omega
    · obtain ⟨i, hi, rfl⟩ := List.mem_map.1 he
      exact (hf i (List.mem_range.1 hi)).2
/-- A slice of bytes that is only handed on. -/
theorem bytes_open {H : Type} {enc : TypeId × Value → H} {W : World} {fuel ln cc : Nat} {ad : Option Addr} {x : DataW H × List MemPlace} (_ : DataW.trod enc Try.prog W 0 (fun _ => true) true fuel 33 [.slice ad ln cc] = some x)
    (_ : (x.1.weights Try.prog 33).all (· ≤ reachBytes) = true) :
    ∃ pp, ∃ es : List Nat, ∃ cp, (Value.slice ad ln cc) = .slice pp es.length cp ∧ True ∧ True := ⟨ad, List.replicate ln 0, cc, by rw [List.length_replicate], trivial, trivial⟩
end FrLaw
end Go.Proofs.Ytnicdehbedcdpaa
