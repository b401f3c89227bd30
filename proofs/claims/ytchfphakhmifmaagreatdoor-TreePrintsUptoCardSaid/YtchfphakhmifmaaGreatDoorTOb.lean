/- A list of elements that is handed in, opened, where it is small. -/
import Derived.Test.YtchfphakhmifmaaGreatDoorRows
import Derived.Test.YtchfphakhmifmaaGreatDoorXI
import Derived.Test.YtchfphakhmifmaaGreatDoorTPw
import Derived.Deep.Slices
import Derived.SizedLaws
import Derived.Deep.DeepHandedRow
import Derived.Lay
import Derived.SevenTiedAt
import Derived.Stop.Joined
namespace Go.Proofs.YtchfphakhmifmaaGreatDoor
namespace ElemsLaw
open Go.ChangeShapes Go.WideShapes Go.ChangeAt Go.RowKit Go.ChangeMaps

theorem lt_of_cell {w : World} {a : Addr} {v : Value} (h : w.cell? a = some v) : a.block < w.heap.size := by
  rcases Nat.lt_or_ge a.block w.heap.size with h1 | h1
  · exact h1
  · simp [World.cell?, Array.getElem?_eq_none h1] at h
theorem tlist3 {α : Type} {l : List α} (h : l.length = 3) : ∃ a b c, l = [a, b, c] := by
  rcases l with _ | ⟨a, _ | ⟨b, _ | ⟨c, l⟩⟩⟩ <;> simp at h
  subst h; exact ⟨a, b, c, rfl⟩
theorem tlist5 {α : Type} {l : List α} (h : l.length = 5) : ∃ a b c d e, l = [a, b, c, d, e] := by
  rcases l with _ | ⟨a, _ | ⟨b, _ | ⟨c, _ | ⟨d, _ | ⟨e, l⟩⟩⟩⟩⟩ <;> simp at h
  subst h; exact ⟨a, b, c, d, e, rfl⟩
theorem cellsAt : Tryz.prog.cellsOf 58 = 3 := by kernel_rfl
theorem cellsEl : Tryz.prog.cellsOf 56 = 5 := by kernel_rfl
theorem cellsAs : Tryz.prog.cellsOf 54 = 1 := by kernel_rfl
theorem cellsStr : Tryz.prog.cellsOf 9 = 1 := by kernel_rfl
theorem cellsInt : Tryz.prog.cellsOf 3 = 1 := by kernel_rfl
theorem bulk_pos {H : Type} (d : DataW H) : 1 ≤ Rows.uptoBulk d := by
  cases d with
  | lit l => cases l <;> simp [Rows.uptoBulk]
  | nil => simp [Rows.uptoBulk]
  | ptr d => simp [Rows.uptoBulk]
  | slice e s => simp [Rows.uptoBulk]
  | agg p => simp [Rows.uptoBulk]
  | iface n d => simp [Rows.uptoBulk]
  | map e => simp [Rows.uptoBulk]
  | held h => simp [Rows.uptoBulk]
theorem bulk_len {H : Type} : ∀ l : List (DataW H), l.length ≤ Rows.uptoBulkAll l
  | [] => Nat.zero_le _
  | d :: l => by
    have := bulk_len l
    have h1 := bulk_pos d
    simp only [Rows.uptoBulkAll, List.length_cons]
    omega
theorem bulk_mem {H : Type} {d : DataW H} : ∀ {l : List (DataW H)}, d ∈ l → Rows.uptoBulk d ≤ Rows.uptoBulkAll l
  | [], h => by cases h
  | x :: l, h => by
    simp only [Rows.uptoBulkAll]
    rcases List.mem_cons.1 h with rfl | h
    · omega
    · have := bulk_mem h; omega
theorem attrs_bulk {H : Type} {enc : TypeId × Value → H} {W : World} {fuel : Nat} {v : Value} {x : DataW H × List MemPlace} (h : DataW.trod enc Tryz.prog W 0 (fun _ => true) true fuel 54 [v] = some x) (hk : Rows.uptoBulk x.1 ≤ 1048576) :
    ∃ pp ts cp, v = .slice pp ts.length cp ∧ ARow W pp W.heap.size ts ∧ ts.length ≤ 1048576 ∧ ∀ t ∈ ts, t.nm.size ≤ 1048576 ∧ t.vl.size ≤ 1048576 := by
  rcases Go.Deep.open_slice Tryz.underlying54 h with ⟨hcs, hx⟩ | ⟨a, len, cap, m, n, D, Pl, hcs, _, hl, hm, hmm, hx, hel⟩
  · obtain rfl : v = .slice none 0 0 := by simpa using hcs
    exact ⟨none, [], 0, rfl, ⟨fun i t ht => by cases ht⟩, by decide, fun t ht => by cases ht⟩
  · obtain rfl : v = .slice (some a) len cap := by simpa using hcs
    simp only [if_true] at hmm
    subst m
    rw [cellsAt] at hel
    have he : x.1 = .slice ((List.range len).map D) ((List.range (cap - len)).map fun j => D (len + j)) := by rw [hx]
    rw [he] at hk
    simp only [Rows.uptoBulk] at hk
    have hlen := bulk_len ((List.range len).map D)
    rw [List.length_map, List.length_range] at hlen
    have one : ∀ i, i < len → ∃ t : Att, (W.cell? (a.add (i * 3)) = some (.string t.nm) ∧ W.cell? (a.add (i * 3 + 1)) = some (.string t.vl) ∧ W.cell? (a.add (i * 3 + 2)) = some (.int .i64 t.p)) ∧ t.nm.size ≤ 1048576 ∧ t.vl.size ≤ 1048576 := by
      intro i hi
      obtain ⟨cs', hc, ht⟩ := hel i (by omega)
      obtain ⟨_, hlen4, hcell⟩ := World.cells?_some hc
      obtain ⟨c1, c2, c3, rfl⟩ := tlist3 hlen4
      obtain ⟨ys, k, _, hx', _, hyl, hfl⟩ := DataW.trod_struct Tryz.underlying58 ht
      obtain ⟨⟨e1, q1⟩, ⟨e2, q2⟩, ⟨e3, q3⟩, rfl⟩ := tlist3 hyl
      have f1 := hfl 0 _ rfl
      have f2 := hfl 1 _ rfl
      have f3 := hfl 2 _ rfl
      simp [cellsStr, cellsInt] at f1 f2 f3
      obtain ⟨s1, h1, r1⟩ := DataW.trod_string Tryz.underlying9 f1
      obtain ⟨s2, h2, r2⟩ := DataW.trod_string Tryz.underlying9 f2
      obtain ⟨z3, h3, _⟩ := DataW.trod_int Tryz.underlying3 f3
      simp only [List.cons.injEq, and_true] at h1 h2 h3
      subst h1 h2 h3
      have g1 := hcell 0 (by decide)
      have g2 := hcell 1 (by decide)
      have g3 := hcell 2 (by decide)
      rw [Go.Deep.add_add] at g1 g2 g3
      have hD : D i = .agg [e1, e2, e3] := by
        have := congrArg Prod.fst hx'
        simpa using this
      have hb := bulk_mem (List.mem_map.2 ⟨i, List.mem_range.2 hi, rfl⟩ : D i ∈ (List.range len).map D)
      rw [hD] at hb
      simp only [Rows.uptoBulk] at hb
      have b1 := bulk_mem (show e1 ∈ [e1, e2, e3] by simp)
      have b2 := bulk_mem (show e2 ∈ [e1, e2, e3] by simp)
      obtain rfl : e1 = .lit (.string s1.data.toList) := congrArg Prod.fst r1.1
      obtain rfl : e2 = .lit (.string s2.data.toList) := congrArg Prod.fst r2.1
      simp only [Rows.uptoBulk] at b1 b2
      rw [tl_len] at b1 b2
      exact ⟨⟨s1, s2, z3⟩, ⟨g1, g2, g3⟩, by show s1.size ≤ _; omega, by show s2.size ≤ _; omega⟩
    haveI : Inhabited Att := ⟨⟨ByteArray.empty, ByteArray.empty, 0⟩⟩
    obtain ⟨f, hf⟩ := Go.Deep.choose_lt one
    refine ⟨some a, (List.range len).map f, cap, by simp, ⟨fun i t ht => ?_⟩, by rw [List.length_map, List.length_range]; omega, fun t ht => ?_⟩
    · rw [List.getElem?_map] at ht
      by_cases hi : i < len
      · rw [List.getElem?_range hi] at ht
        cases ht
        obtain ⟨⟨h0, h1, h2⟩, _⟩ := hf i hi
        obtain ⟨g, o, spot⟩ := a
        have hspot : spot = none := by simpa [Addr.add] using World.cell?_spot (hf 0 (by omega)).1.1
        subst hspot
        rw [addrI] at h0 h1 h2
        exact ⟨g, o, rfl, lt_of_cell (a := ⟨g, o + i * 3, none⟩) h0, h0, h1, h2⟩
      · rw [List.getElem?_eq_none (by simp; omega)] at ht
        cases ht
    · obtain ⟨i, hi, rfl⟩ := List.mem_map.1 ht
      exact (hf i (List.mem_range.1 hi)).2
theorem elems_bulk {H : Type} {enc : TypeId × Value → H} {W : World} {fuel : Nat} {v : Value} {x : DataW H × List MemPlace} (h : DataW.trod enc Tryz.prog W 0 (fun _ => true) true fuel 22 [v] = some x) (hk : Rows.uptoBulk x.1 ≤ 1048576) :
    ∃ pp es cp, v = .slice pp es.length cp ∧ ERow W pp W.heap.size es ∧ PSz es := by
  rcases Go.Deep.open_slice Tryz.underlying22 h with ⟨hcs, hx⟩ | ⟨a, len, cap, m, n, D, Pl, hcs, _, hl, hm, hmm, hx, hel⟩
  · obtain rfl : v = .slice none 0 0 := by simpa using hcs
    exact ⟨none, [], 0, rfl, ⟨fun i t ht => by cases ht⟩, by decide, fun t ht => (by cases ht), fun t ht => (by cases ht)⟩
  · obtain rfl : v = .slice (some a) len cap := by simpa using hcs
    simp only [if_true] at hmm
    subst m
    rw [cellsEl] at hel
    have he : x.1 = .slice ((List.range len).map D) ((List.range (cap - len)).map fun j => D (len + j)) := by rw [hx]
    rw [he] at hk
    simp only [Rows.uptoBulk] at hk
    have hlen := bulk_len ((List.range len).map D)
    rw [List.length_map, List.length_range] at hlen
    have one : ∀ i, i < len → ∃ t : El, (∃ pa ca, W.cell? (a.add (i * 5)) = some (.int .i64 t.d) ∧ W.cell? (a.add (i * 5 + 1)) = some (.string t.nm) ∧ W.cell? (a.add (i * 5 + 2)) = some (.slice pa t.ats.length ca) ∧ W.cell? (a.add (i * 5 + 3)) = some (.string t.tx) ∧ W.cell? (a.add (i * 5 + 4)) = some (.int .i64 t.p) ∧ ARow W pa W.heap.size t.ats) ∧ (-9223372036854775808 ≤ t.d ∧ t.d ≤ 9223372036854775807) ∧ t.nm.size ≤ 1048576 ∧ t.tx.size ≤ 1048576 ∧ t.ats.length ≤ 1048576 ∧ (∀ a ∈ t.ats, a.nm.size ≤ 1048576 ∧ a.vl.size ≤ 1048576) := by
      intro i hi
      obtain ⟨cs', hc, ht⟩ := hel i (by omega)
      obtain ⟨_, hlen4, hcell⟩ := World.cells?_some hc
      obtain ⟨c0, c1, c2, c3, c4, rfl⟩ := tlist5 hlen4
      obtain ⟨ys, k, _, hx', _, hyl, hfl⟩ := DataW.trod_struct Tryz.underlying56 ht
      obtain ⟨⟨e0, q0⟩, ⟨e1, q1⟩, ⟨e2, q2⟩, ⟨e3, q3⟩, ⟨e4, q4⟩, rfl⟩ := tlist5 hyl
      have f0 := hfl 0 _ rfl
      have f1 := hfl 1 _ rfl
      have f2 := hfl 2 _ rfl
      have f3 := hfl 3 _ rfl
      have f4 := hfl 4 _ rfl
      simp [cellsStr, cellsInt, cellsAs] at f0 f1 f2 f3 f4
      have hD : D i = .agg [e0, e1, e2, e3, e4] := by
        have := congrArg Prod.fst hx'
        simpa using this
      have hb := bulk_mem (List.mem_map.2 ⟨i, List.mem_range.2 hi, rfl⟩ : D i ∈ (List.range len).map D)
      rw [hD] at hb
      simp only [Rows.uptoBulk] at hb
      have b1 := bulk_mem (show e1 ∈ [e0, e1, e2, e3, e4] by simp)
      have b2 := bulk_mem (show e2 ∈ [e0, e1, e2, e3, e4] by simp)
      have b3 := bulk_mem (show e3 ∈ [e0, e1, e2, e3, e4] by simp)
      obtain ⟨z0, h0, _, b0⟩ := DataW.trod_int Tryz.underlying3 f0
      obtain ⟨s1, h1, r1⟩ := DataW.trod_string Tryz.underlying9 f1
      obtain ⟨s3, h3, r3⟩ := DataW.trod_string Tryz.underlying9 f3
      obtain ⟨z4, h4, _⟩ := DataW.trod_int Tryz.underlying3 f4
      obtain ⟨pa, al, ca, h2, hA, hAl, hAs⟩ := attrs_bulk f2 (by show Rows.uptoBulk e2 ≤ 1048576; omega)
      simp only [List.cons.injEq, and_true] at h0 h1 h3 h4
      subst h0 h1 h2 h3 h4
      have g0 := hcell 0 (by decide)
      have g1 := hcell 1 (by decide)
      have g2 := hcell 2 (by decide)
      have g3 := hcell 3 (by decide)
      have g4 := hcell 4 (by decide)
      rw [Go.Deep.add_add] at g0 g1 g2 g3 g4
      have bb := bounds_i64 b0
      obtain rfl : e1 = .lit (.string s1.data.toList) := congrArg Prod.fst r1.1
      obtain rfl : e3 = .lit (.string s3.data.toList) := congrArg Prod.fst r3.1
      simp only [Rows.uptoBulk] at b1 b3
      rw [tl_len] at b1 b3
      exact ⟨⟨z0, s1, al, s3, z4⟩, ⟨pa, ca, g0, g1, g2, g3, g4, hA⟩, ⟨by show _ ≤ z0; omega, by show z0 ≤ _; omega⟩, by show s1.size ≤ _; omega, by show s3.size ≤ _; omega, hAl, hAs⟩
    haveI : Inhabited El := ⟨⟨0, ByteArray.empty, [], ByteArray.empty, 0⟩⟩
    obtain ⟨f, hf⟩ := Go.Deep.choose_lt one
    refine ⟨some a, (List.range len).map f, cap, by simp, ⟨fun i t ht => ?_⟩, by rw [List.length_map, List.length_range]; omega, fun t ht => ?_, fun t ht => ?_⟩
    · rw [List.getElem?_map] at ht
      by_cases hi : i < len
      · rw [List.getElem?_range hi] at ht
        cases ht
        obtain ⟨⟨pa, ca, h0, h1, h2, h3, h4, h5⟩, _⟩ := hf i hi
        obtain ⟨g, o, spot⟩ := a
        have hspot : spot = none := by
          obtain ⟨⟨_, _, h00, _⟩, _⟩ := hf 0 (by omega)
          simpa [Addr.add] using World.cell?_spot h00
        subst hspot
        rw [addrI] at h0 h1 h2 h3 h4
        exact ⟨g, o, pa, ca, rfl, lt_of_cell (a := ⟨g, o + i * 5, none⟩) h0, h0, h1, h2, h3, h4, h5⟩
      · rw [List.getElem?_eq_none (by simp; omega)] at ht
        cases ht
    · obtain ⟨i, hi, rfl⟩ := List.mem_map.1 ht
      exact (hf i (List.mem_range.1 hi)).2.1
    · obtain ⟨i, hi, rfl⟩ := List.mem_map.1 ht
      exact (hf i (List.mem_range.1 hi)).2.2
end ElemsLaw
end Go.Proofs.YtchfphakhmifmaaGreatDoor
