/- What is handed in: operations. -/
import Derived.Test.YtnicdehbedcdpaaFnB
import Derived.Test.YtnicdehbedcdpaaFmXb
namespace Go.Proofs.Ytnicdehbedcdpaa
namespace FrLaw
open Go.ChangeShapes Go.WideShapes Go.ChangeAt Go.RowKit Go.ChangeMaps

theorem tlist4 {α : Type} {l : List α} (h : l.length = 4) : ∃ a b c d, l = [a, b, c, d] := by
  rcases l with _ | ⟨a, _ | ⟨b, _ | ⟨c, _ | ⟨d, l⟩⟩⟩⟩ <;> simp at h
  subst h; exact ⟨a, b, c, d, rfl⟩
theorem cellsOp : Try.prog.cellsOf 56 = 4 := by kernel_rfl
theorem cellsBs : Try.prog.cellsOf 33 = 1 := by kernel_rfl
theorem cellsB : Try.prog.cellsOf 5 = 1 := by kernel_rfl
theorem bulk_pos {H : Type} (d : DataW H) : 1 ≤ Rows.uptoBulk d := by
  cases d with
  | lit l => cases l <;> simp [Rows.uptoBulk]
  | nil => simp [Rows.uptoBulk]
  | ptr d => simp [Rows.uptoBulk]
  | slice e s => simp [Rows.uptoBulk]
  | agg p => simp [Rows.uptoBulk]
  | iface n d => simp [Rows.uptoBulk]
  | map e => simp [Rows.uptoBulk]
  | held h => simp [Rows.uptoBulk]
theorem bulk_len {H : Type} : ∀ l : List (DataW H), l.length ≤ Rows.uptoBulkAll l
  | [] => Nat.zero_le _
  | d :: l => by
    have := bulk_len l
    have h1 := bulk_pos d
    simp only [Rows.uptoBulkAll, List.length_cons]
    omega
theorem bulk_mem {H : Type} {d : DataW H} : ∀ {l : List (DataW H)}, d ∈ l → Rows.uptoBulk d ≤ Rows.uptoBulkAll l
  | [], h => by cases h
  | x :: l, h => by
    simp only [Rows.uptoBulkAll]
    rcases List.mem_cons.1 h with rfl | h
    · omega
    · have := bulk_mem h; omega
/-- Bytes that are handed in. -/
theorem bs_openU {H : Type} {enc : TypeId × Value → H} {W : World} {fuel : Nat} {v : Value} {x : DataW H × List MemPlace} (h : DataW.trod enc Try.prog W 0 (fun _ => true) true fuel 33 [v] = some x) (hw : Rows.uptoBulk x.1 ≤ 1048576) :
    ∃ pL L cL, v = .slice pL (List.length L) cL ∧ L.length ≤ cL ∧ BRow W pL W.heap.size L ∧ L.length ≤ 1048576 := by
  rcases Go.Deep.open_slice Try.underlying33 h with ⟨hcs, hx⟩ | ⟨a, len, cap, m, n, D, Pl, hcs, _, hl, hm, hmm, hx, hel⟩
  · obtain rfl : v = .slice none 0 0 := by simpa using hcs
    exact ⟨none, [], 0, rfl, Nat.le_refl _, ⟨fun i t ht => (by cases ht), fun y hy => (by cases hy), fun _ => rfl, (fun a e => by cases e)⟩, by decide⟩
  · obtain rfl : v = .slice (some a) len cap := by simpa using hcs
    simp only [if_true] at hmm
    subst m
    rw [cellsB] at hel
    have one : ∀ i, i < len → ∃ t : Nat, W.cell? (a.add i) = some (.int .u8 (t : Int)) ∧ t < 256 := by
      intro i hi
      obtain ⟨cs', hc, ht⟩ := hel i (by omega)
      obtain ⟨_, hlen, hcell⟩ := World.cells?_some hc
      obtain ⟨c0, rfl⟩ := tlist1 hlen
      obtain ⟨z0, h0, _, b0⟩ := DataW.trod_int Try.underlying5 ht
      simp only [List.cons.injEq, and_true] at h0
      subst h0
      have g0 := hcell 0 (by decide)
      rw [Go.Deep.add_add, Nat.mul_one, Nat.add_zero] at g0
      have bb := bounds_u8 b0
      have ez : ((z0.toNat : Nat) : Int) = z0 := by omega
      exact ⟨z0.toNat, by rw [ez]; exact g0, by omega⟩
    obtain ⟨f, hf⟩ := Go.Deep.choose_lt one
    have hlen : len ≤ 1048576 := by
      have e2 : x.1 = .slice ((List.range len).map D) ((List.range (cap - len)).map fun j => D (len + j)) := congrArg Prod.fst hx
      have h1 := bulk_len ((List.range len).map D)
      rw [List.length_map, List.length_range] at h1
      rw [e2] at hw
      simp only [Rows.uptoBulk] at hw
      omega
    refine ⟨some a, (List.range len).map f, cap, by simp, by simpa using hl, ⟨fun i t ht => ?_, fun y hy => ?_, (fun e => by cases e), fun a' e hne => ?_⟩, by rw [List.length_map, List.length_range]; omega⟩
    · rw [List.getElem?_map] at ht
      by_cases hi : i < len
      · rw [List.getElem?_range hi] at ht
        cases ht
        obtain ⟨h0, _⟩ := hf i hi
        obtain ⟨g, o, spot⟩ := a
        have hspot : spot = none := by simpa [Addr.add] using World.cell?_spot (hf 0 (by omega)).1
        subst hspot
        rw [addrP] at h0
        exact ⟨g, o, rfl, lt_of_cell (a := ⟨g, o + i, none⟩) h0, h0⟩
      · rw [List.getElem?_eq_none (by simp; omega)] at ht
        cases ht
    · obtain ⟨i, hi, rfl⟩ := List.mem_map.1 hy
      exact (hf i (List.mem_range.1 hi)).2
    · cases e
      have hl0 : 0 < len := by
        rcases Nat.eq_zero_or_pos len with h0 | h0
        · subst h0; exact absurd rfl hne
        · exact h0
      simpa [Addr.add] using World.cell?_spot (hf 0 hl0).1
theorem ops_openU {H : Type} {enc : TypeId × Value → H} {W : World} {fuel : Nat} {v : Value} {x : DataW H × List MemPlace} (h : DataW.trod enc Try.prog W 0 (fun _ => true) true fuel 49 [v] = some x) (hk : Rows.uptoBulk x.1 ≤ 1048576) :
    ∃ pp ts cp, v = .slice pp (List.length ts) cp ∧ OpRow W pp W.heap.size ts ∧ ts.length ≤ 1048576 ∧ ∀ t ∈ ts, t.b.length ≤ 1048576 := by
  rcases Go.Deep.open_slice Try.underlying49 h with ⟨hcs, hx⟩ | ⟨a, len, cap, m, n, D, Pl, hcs, _, hl, hm, hmm, hx, hel⟩
  · obtain rfl : v = .slice none 0 0 := by simpa using hcs
    exact ⟨none, [], 0, rfl, ⟨fun i t ht => by cases ht⟩, by decide, fun t ht => by cases ht⟩
  · obtain rfl : v = .slice (some a) len cap := by simpa using hcs
    simp only [if_true] at hmm
    subst m
    rw [cellsOp] at hel
    have he : x.1 = .slice ((List.range len).map D) ((List.range (cap - len)).map fun j => D (len + j)) := by rw [hx]
    rw [he] at hk
    simp only [Rows.uptoBulk] at hk
    have hlen := bulk_len ((List.range len).map D)
    rw [List.length_map, List.length_range] at hlen
    have one : ∀ i, i < len → ∃ t : OpT, (W.cell? (a.add (i * 4)) = some (.int .i64 t.k) ∧ W.cell? (a.add (i * 4 + 1)) = some (.int .i64 t.a) ∧ W.cell? (a.add (i * 4 + 2)) = some (.int .i64 t.n) ∧ ∃ pb cb, W.cell? (a.add (i * 4 + 3)) = some (.slice pb t.b.length cb) ∧ t.b.length ≤ cb ∧ BRow W pb W.heap.size t.b) ∧ t.b.length ≤ 1048576 := by
      intro i hi
      obtain ⟨cs', hc, ht⟩ := hel i (by omega)
      obtain ⟨_, hlen4, hcell⟩ := World.cells?_some hc
      obtain ⟨c0, c1, c2, c3, rfl⟩ := tlist4 hlen4
      obtain ⟨ys, k, _, hx', _, hyl, hfl⟩ := DataW.trod_struct Try.underlying56 ht
      obtain ⟨⟨e0, q0⟩, ⟨e1, q1⟩, ⟨e2, q2⟩, ⟨e3, q3⟩, rfl⟩ := tlist4 hyl
      have f0 := hfl 0 _ rfl
      have f1 := hfl 1 _ rfl
      have f2 := hfl 2 _ rfl
      have f3 := hfl 3 _ rfl
      simp [cellsInt, cellsBs] at f0 f1 f2 f3
      obtain ⟨z0, h0, _⟩ := DataW.trod_int Try.underlying3 f0
      obtain ⟨z1, h1, _⟩ := DataW.trod_int Try.underlying3 f1
      obtain ⟨z2, h2, _⟩ := DataW.trod_int Try.underlying3 f2
      simp only [List.cons.injEq, and_true] at h0 h1 h2
      subst h0 h1 h2
      have hD : D i = .agg [e0, e1, e2, e3] := by
        have := congrArg Prod.fst hx'
        simpa using this
      have hb := bulk_mem (List.mem_map.2 ⟨i, List.mem_range.2 hi, rfl⟩ : D i ∈ (List.range len).map D)
      rw [hD] at hb
      simp only [Rows.uptoBulk] at hb
      have b3 := bulk_mem (show e3 ∈ [e0, e1, e2, e3] by simp)
      obtain ⟨pb, L, cb, rfl, hcb, hB, hL⟩ := bs_openU f3 (by show Rows.uptoBulk e3 ≤ _; omega)
      have g0 := hcell 0 (by decide)
      have g1 := hcell 1 (by decide)
      have g2 := hcell 2 (by decide)
      have g3 := hcell 3 (by decide)
      rw [Go.Deep.add_add] at g0 g1 g2 g3
      exact ⟨⟨z0, z1, z2, L⟩, ⟨g0, g1, g2, pb, cb, g3, hcb, hB⟩, hL⟩
    haveI : Inhabited OpT := ⟨⟨0, 0, 0, []⟩⟩
    obtain ⟨f, hf⟩ := Go.Deep.choose_lt one
    refine ⟨some a, (List.range len).map f, cap, by simp, ⟨fun i t ht => ?_⟩, by rw [List.length_map, List.length_range]; omega, fun t ht => ?_⟩
    · rw [List.getElem?_map] at ht
      by_cases hi : i < len
      · rw [List.getElem?_range hi] at ht
        cases ht
        obtain ⟨⟨h0, h1, h2, pb, cb, h3, h4, h5⟩, _⟩ := hf i hi
        obtain ⟨g, o, spot⟩ := a
        have hspot : spot = none := by simpa [Addr.add] using World.cell?_spot (hf 0 (by omega)).1.1
        subst hspot
        rw [addrP] at h0 h1 h2 h3
        exact ⟨g, o, pb, cb, rfl, lt_of_cell (a := ⟨g, o + i * 4, none⟩) h0, h0, h1, h2, h3, h4, h5⟩
      · rw [List.getElem?_eq_none (by simp; omega)] at ht
        cases ht
    · obtain ⟨i, hi, rfl⟩ := List.mem_map.1 ht
      exact (hf i (List.mem_range.1 hi)).2
end FrLaw
end Go.Proofs.Ytnicdehbedcdpaa
