/- CuPl, CuX. -/
import Derived.Test.YtgklippjoikadaaDoorK33
import Derived.Test.YtgklippjoikadaaDoorK34
import Derived.Test.YtgklippjoikadaaDoorK22
import Derived.Deep.Slices
import Derived.SizedLaws
import Derived.OpenShut
import Derived.Deep.DeepHandedRow
namespace Go.Proofs.YtgklippjoikadaaDoor
open Go.ChangeShapes Go.WideShapes Go.ChangeAt Go.RowKit

theorem Plays_any (a : Option Addr) (L C : Nat) (bi : Nat → Int) (at' : Int) (big : Bool) (ps : Option Addr) (ops : List Op1) (pcap : Nat) (w : World) (kt : KT w) (hb : Arg w a L bi) (hbi : ∀ j, 0 ≤ bi j ∧ bi j ≤ 255) (hL : L + 4096 ≤ 140737488355328) (hs : OpsR w ps ops) :
    Calls Tryd.prog 3 #[.slice a L C, .int .i64 at', .bool big, .slice ps ops.length pcap] w fun e w' => e = .returned (.bool true) ∧ Below w.heap.size w w' := by
  cases big
  · exact Plays_false a L C bi at' ps ops pcap w kt hb hbi hL hs
  · exact Plays_true a L C bi at' ps ops pcap w kt hb hbi hL hs
end Go.Proofs.YtgklippjoikadaaDoor
namespace Go.Proofs.YtgklippjoikadaaDoor
open Go.ChangeShapes Go.WideShapes Go.ChangeAt Go.RowKit

theorem tlist1 {α : Type} {l : List α} (h : l.length = 1) : ∃ a0, l = [a0] := by
  rcases l with _ | ⟨a0, l⟩ <;> simp at h
  subst h; exact ⟨a0, rfl⟩
theorem tlist2 {α : Type} {l : List α} (h : l.length = 2) : ∃ a0 a1, l = [a0, a1] := by
  rcases l with _ | ⟨a0, _ | ⟨a1, l⟩⟩ <;> simp at h
  subst h; exact ⟨a0, a1, rfl⟩
theorem tlist4 {α : Type} {l : List α} (h : l.length = 4) : ∃ a0 a1 a2 a3, l = [a0, a1, a2, a3] := by
  rcases l with _ | ⟨a0, _ | ⟨a1, _ | ⟨a2, _ | ⟨a3, l⟩⟩⟩⟩ <;> simp at h
  subst h; exact ⟨a0, a1, a2, a3, rfl⟩
theorem tlist5 {α : Type} {l : List α} (h : l.length = 5) : ∃ a0 a1 a2 a3 a4, l = [a0, a1, a2, a3, a4] := by
  rcases l with _ | ⟨a0, _ | ⟨a1, _ | ⟨a2, _ | ⟨a3, _ | ⟨a4, l⟩⟩⟩⟩⟩ <;> simp at h
  subst h; exact ⟨a0, a1, a2, a3, a4, rfl⟩
theorem tlist9 {α : Type} {l : List α} (h : l.length = 9) : ∃ a0 a1 a2 a3 a4 a5 a6 a7 a8, l = [a0, a1, a2, a3, a4, a5, a6, a7, a8] := by
  rcases l with _ | ⟨a0, _ | ⟨a1, _ | ⟨a2, _ | ⟨a3, _ | ⟨a4, _ | ⟨a5, _ | ⟨a6, _ | ⟨a7, _ | ⟨a8, l⟩⟩⟩⟩⟩⟩⟩⟩⟩ <;> simp at h
  subst h; exact ⟨a0, a1, a2, a3, a4, a5, a6, a7, a8, rfl⟩
theorem tlist19 {α : Type} {l : List α} (h : l.length = 19) : ∃ a0 a1 a2 a3 a4 a5 a6 a7 a8 a9 a10 a11 a12 a13 a14 a15 a16 a17 a18, l = [a0, a1, a2, a3, a4, a5, a6, a7, a8, a9, a10, a11, a12, a13, a14, a15, a16, a17, a18] := by
  rcases l with _ | ⟨a0, _ | ⟨a1, _ | ⟨a2, _ | ⟨a3, _ | ⟨a4, _ | ⟨a5, _ | ⟨a6, _ | ⟨a7, _ | ⟨a8, _ | ⟨a9, _ | ⟨a10, _ | ⟨a11, _ | ⟨a12, _ | ⟨a13, _ | ⟨a14, _ | ⟨a15, _ | ⟨a16, _ | ⟨a17, _ | ⟨a18, l⟩⟩⟩⟩⟩⟩⟩⟩⟩⟩⟩⟩⟩⟩⟩⟩⟩⟩⟩ <;> simp at h
  subst h; exact ⟨a0, a1, a2, a3, a4, a5, a6, a7, a8, a9, a10, a11, a12, a13, a14, a15, a16, a17, a18, rfl⟩
theorem tlist21 {α : Type} {l : List α} (h : l.length = 21) : ∃ a0 a1 a2 a3 a4 a5 a6 a7 a8 a9 a10 a11 a12 a13 a14 a15 a16 a17 a18 a19 a20, l = [a0, a1, a2, a3, a4, a5, a6, a7, a8, a9, a10, a11, a12, a13, a14, a15, a16, a17, a18, a19, a20] := by
  rcases l with _ | ⟨a0, _ | ⟨a1, _ | ⟨a2, _ | ⟨a3, _ | ⟨a4, _ | ⟨a5, _ | ⟨a6, _ | ⟨a7, _ | ⟨a8, _ | ⟨a9, _ | ⟨a10, _ | ⟨a11, _ | ⟨a12, _ | ⟨a13, _ | ⟨a14, _ | ⟨a15, _ | ⟨a16, _ | ⟨a17, _ | ⟨a18, _ | ⟨a19, _ | ⟨a20, l⟩⟩⟩⟩⟩⟩⟩⟩⟩⟩⟩⟩⟩⟩⟩⟩⟩⟩⟩⟩⟩ <;> simp at h
  subst h; exact ⟨a0, a1, a2, a3, a4, a5, a6, a7, a8, a9, a10, a11, a12, a13, a14, a15, a16, a17, a18, a19, a20, rfl⟩
theorem tlist40 {α : Type} {l : List α} (h : l.length = 40) : ∃ a0 a1 a2 a3 a4 a5 a6 a7 a8 a9 a10 a11 a12 a13 a14 a15 a16 a17 a18 a19 a20 a21 a22 a23 a24 a25 a26 a27 a28 a29 a30 a31 a32 a33 a34 a35 a36 a37 a38 a39, l = [a0, a1, a2, a3, a4, a5, a6, a7, a8, a9, a10, a11, a12, a13, a14, a15, a16, a17, a18, a19, a20, a21, a22, a23, a24, a25, a26, a27, a28, a29, a30, a31, a32, a33, a34, a35, a36, a37, a38, a39] := by
  rcases l with _ | ⟨a0, _ | ⟨a1, _ | ⟨a2, _ | ⟨a3, _ | ⟨a4, _ | ⟨a5, _ | ⟨a6, _ | ⟨a7, _ | ⟨a8, _ | ⟨a9, _ | ⟨a10, _ | ⟨a11, _ | ⟨a12, _ | ⟨a13, _ | ⟨a14, _ | ⟨a15, _ | ⟨a16, _ | ⟨a17, _ | ⟨a18, _ | ⟨a19, _ | ⟨a20, _ | ⟨a21, _ | ⟨a22, _ | ⟨a23, _ | ⟨a24, _ | ⟨a25, _ | ⟨a26, _ | ⟨a27, _ | ⟨a28, _ | ⟨a29, _ | ⟨a30, _ | ⟨a31, _ | ⟨a32, _ | ⟨a33, _ | ⟨a34, _ | ⟨a35, _ | ⟨a36, _ | ⟨a37, _ | ⟨a38, _ | ⟨a39, l⟩⟩⟩⟩⟩⟩⟩⟩⟩⟩⟩⟩⟩⟩⟩⟩⟩⟩⟩⟩⟩⟩⟩⟩⟩⟩⟩⟩⟩⟩⟩⟩⟩⟩⟩⟩⟩⟩⟩⟩ <;> simp at h
  subst h; exact ⟨a0, a1, a2, a3, a4, a5, a6, a7, a8, a9, a10, a11, a12, a13, a14, a15, a16, a17, a18, a19, a20, a21, a22, a23, a24, a25, a26, a27, a28, a29, a30, a31, a32, a33, a34, a35, a36, a37, a38, a39, rfl⟩
theorem lt_of_cell {w : World} {a : Addr} {v : Value} (h : w.cell? a = some v) : a.block < w.heap.size := by
  rcases Nat.lt_or_ge a.block w.heap.size with h1 | h1
  · exact h1
  · simp [World.cell?, Array.getElem?_eq_none h1] at h
theorem cellsTk : Tryd.prog.cellsOf 48 = 21 := by kernel_rfl
theorem cellsHd : Tryd.prog.cellsOf 42 = 9 := by kernel_rfl
theorem cellsSp : Tryd.prog.cellsOf 40 = 2 := by kernel_rfl
theorem cellsWs : Tryd.prog.cellsOf 46 = 1 := by kernel_rfl
theorem cellsU : Tryd.prog.cellsOf 38 = 1 := by kernel_rfl
theorem cellsStr : Tryd.prog.cellsOf 9 = 1 := by kernel_rfl
theorem cellsInt : Tryd.prog.cellsOf 3 = 1 := by kernel_rfl
theorem cellsOp : Tryd.prog.cellsOf 44 = 1 := by kernel_rfl
theorem cellsPr : Tryd.prog.cellsOf 37 = 1 := by kernel_rfl
theorem cellsPs : Tryd.prog.cellsOf 45 = 1 := by kernel_rfl
theorem bytesU : Tryd.prog.bytesOf 38 = 8 := by kernel_rfl
theorem addr_at (g o k : Nat) : (⟨g, o, none⟩ : Addr).add k = ⟨g, o + k, none⟩ := by unfold Addr.add; split <;> simp_all
theorem weightsAll_mem {H : Type} {P : Program} {e : TypeId} {d : DataW H} {n : Nat} (hn : n ∈ d.weights P e) : ∀ {l : List (DataW H)}, d ∈ l → n ∈ DataW.weightsAll P e l
  | [], h => by cases h
  | x :: r, h => by
    simp only [DataW.weightsAll, List.mem_append]
    rcases List.mem_cons.1 h with rfl | h
    · exact .inl hn
    · exact .inr (weightsAll_mem hn h)
theorem words_open {H : Type} {enc : TypeId × Value → H} {W : World} {fuel : Nat} {v : Value} {x : DataW H × List MemPlace} (h : DataW.trod enc Tryd.prog W 0 (fun _ => true) true fuel 46 [v] = some x) :
    ∃ pa al ca, v = .slice pa al.length ca ∧ URow W pa W.heap.size al ∧ (∀ y ∈ al, u64ok y) ∧ al.length ≤ ca ∧ ((x.1.weights Tryd.prog 46).all (· ≤ reachBytes) = true → al.length * 8 ≤ 140737488351232) := by
  rcases Go.Deep.open_slice Tryd.underlying46 h with ⟨hcs, hx⟩ | ⟨a, len, cap, m, n, D, Pl, hcs, _, hl, hm, hmm, hx, hel⟩
  · obtain rfl : v = .slice none 0 0 := by simpa using hcs
    exact ⟨none, [], 0, rfl, ⟨fun i t ht => (by cases ht)⟩, fun y hy => (by cases hy), Nat.le_refl _, fun _ => (by decide)⟩
  · obtain rfl : v = .slice (some a) len cap := by simpa using hcs
    simp only [if_true] at hmm
    subst m
    rw [cellsU] at hel
    have one : ∀ i, i < len → ∃ t : Int, W.cell? (a.add i) = some (.int .u64 t) ∧ u64ok t := by
      intro i hi
      obtain ⟨cs', hc, ht⟩ := hel i (by omega)
      obtain ⟨_, hlen, hcell⟩ := World.cells?_some hc
      obtain ⟨c0, rfl⟩ := tlist1 hlen
      obtain ⟨z0, h0, _, b0⟩ := DataW.trod_int Tryd.underlying38 ht
      simp only [List.cons.injEq, and_true] at h0
      subst h0
      have g0 := hcell 0 (by decide)
      rw [Go.Deep.add_add, Nat.mul_one, Nat.add_zero] at g0
      have bb := bounds_u64 b0
      exact ⟨z0, g0, by unfold u64ok; omega⟩
    haveI : Inhabited Int := ⟨0⟩
    obtain ⟨f, hf⟩ := Go.Deep.choose_lt one
    refine ⟨some a, (List.range len).map f, cap, by simp, ⟨fun i t ht => ?_⟩, fun y hy => ?_, by rw [List.length_map, List.length_range]; omega, fun hw => ?_⟩
    · rw [List.getElem?_map] at ht
      by_cases hi : i < len
      · rw [List.getElem?_range hi] at ht
        cases ht
        obtain ⟨h0, _⟩ := hf i hi
        obtain ⟨g, o, spot⟩ := a
        have hspot : spot = none := by simpa [Addr.add] using World.cell?_spot (hf 0 (by omega)).1
        subst hspot
        rw [addr_at] at h0
        exact ⟨g, o, rfl, lt_of_cell (a := ⟨g, o + i, none⟩) h0, h0⟩
      · rw [List.getElem?_eq_none (by simp; omega)] at ht
        cases ht
    · obtain ⟨i, hi, rfl⟩ := List.mem_map.1 hy
      exact (hf i (List.mem_range.1 hi)).2
    · have he : x.1 = .slice ((List.range len).map D) ((List.range (cap - len)).map fun j => D (len + j)) := by rw [hx]
      rw [he] at hw
      have h2 := List.all_eq_true.1 hw (((List.range len).map D).length + ((List.range (cap - len)).map fun j => D (len + j)).length |> (· * Tryd.prog.bytesOf 38)) (by simp [DataW.weights, Tryd.underlying46])
      rw [bytesU] at h2
      simp [reachBytes] at h2
      rw [List.length_map, List.length_range]
      omega
theorem spot_open {H : Type} {enc : TypeId × Value → H} {W : World} {fuel : Nat} {c d : Value} {x : DataW H × List MemPlace} (h : DataW.trod enc Tryd.prog W 0 (fun _ => true) true fuel 40 [c, d] = some x) :
    ∃ s : Sp, c = .int .i64 s.p ∧ d = .int .i64 s.o ∧ SpOk s := by
  obtain ⟨ys, k, _, hx', _, hyl, hfl⟩ := DataW.trod_struct Tryd.underlying40 h
  obtain ⟨⟨e0, q0⟩, ⟨e1, q1⟩, rfl⟩ := tlist2 hyl
  have f0 := hfl 0 _ rfl
  have f1 := hfl 1 _ rfl
  simp [cellsPr, cellsInt] at f0 f1
  obtain ⟨z0, h0, _, b0⟩ := DataW.trod_int Tryd.underlying37 f0
  obtain ⟨z1, h1, _, b1⟩ := DataW.trod_int Tryd.underlying3 f1
  simp only [List.cons.injEq, and_true] at h0 h1
  subst h0 h1
  have bb := bounds_i64 b0
  have bc := bounds_i64 b1
  exact ⟨⟨z0, z1⟩, rfl, rfl, ⟨by unfold i64ok; dsimp only; omega, by unfold i64ok; dsimp only; omega⟩⟩
theorem cellsO1 : Tryd.prog.cellsOf 50 = 40 := by kernel_rfl
theorem cellsF4 : Tryd.prog.cellsOf 43 = 4 := by kernel_rfl
theorem cellsB : Tryd.prog.cellsOf 5 = 1 := by kernel_rfl
theorem bytesB : Tryd.prog.bytesOf 5 = 1 := by kernel_rfl
theorem bytesO1 : Tryd.prog.bytesOf 50 = 352 := by kernel_rfl
theorem head_open {H : Type} {enc : TypeId × Value → H} {W : World} {fuel : Nat} {c0 c1 c2 c3 c4 c5 c6 c7 c8 : Value} {x : DataW H × List MemPlace} (h : DataW.trod enc Tryd.prog W 0 (fun _ => true) true fuel 42 [c0, c1, c2, c3, c4, c5, c6, c7, c8] = some x) :
    ∃ d : Hd, [c0, c1, c2, c3, c4, c5, c6, c7, c8] = [.int .i64 d.size, .int .i64 d.b.p, .int .i64 d.b.o, .int .i64 d.t.p, .int .i64 d.t.o, .int .i64 d.s.p, .int .i64 d.s.o, .int .i64 d.v.p, .int .i64 d.v.o] := by
  obtain ⟨ys, k, _, hx', _, hyl, hfl⟩ := DataW.trod_struct Tryd.underlying42 h
  obtain ⟨⟨e0, q0⟩, ⟨e1, q1⟩, ⟨e2, q2⟩, ⟨e3, q3⟩, ⟨e4, q4⟩, rfl⟩ := tlist5 hyl
  have f0 := hfl 0 _ rfl
  have f1 := hfl 1 _ rfl
  have f2 := hfl 2 _ rfl
  have f3 := hfl 3 _ rfl
  have f4 := hfl 4 _ rfl
  simp [cellsSp, cellsInt] at f0 f1 f2 f3 f4
  obtain ⟨z0, h0, _⟩ := DataW.trod_int Tryd.underlying3 f0
  obtain ⟨s1, r1, t1, _⟩ := spot_open f1
  obtain ⟨s2, r2, t2, _⟩ := spot_open f2
  obtain ⟨s3, r3, t3, _⟩ := spot_open f3
  obtain ⟨s4, r4, t4, _⟩ := spot_open f4
  simp only [List.cons.injEq, and_true] at h0
  subst h0 r1 t1 r2 t2 r3 t3 r4 t4
  exact ⟨⟨z0, s1, s2, s3, s4⟩, rfl⟩
theorem four_open {H : Type} {enc : TypeId × Value → H} {W : World} {fuel : Nat} {c0 c1 c2 c3 : Value} {x : DataW H × List MemPlace} (h : DataW.trod enc Tryd.prog W 0 (fun _ => true) true fuel 43 [c0, c1, c2, c3] = some x) :
    ∃ v : Four, [c0, c1, c2, c3] = [.int .u64 v.a, .int .u64 v.b, .int .u64 v.c, .int .u64 v.d] ∧ FourOk v := by
  obtain ⟨xs, m, _, hx, hl, hxl, hf⟩ := DataW.trod_array Tryd.underlying43 h
  have f0 := hf 0 (by decide)
  have f1 := hf 1 (by decide)
  have f2 := hf 2 (by decide)
  have f3 := hf 3 (by decide)
  simp [cellsU] at f0 f1 f2 f3
  have g : ∀ {c : Value} {y : Option (DataW H × List MemPlace)} {fu : Nat}, DataW.trod enc Tryd.prog W 0 (fun _ => true) true fu 38 [c] = y → y.isSome = true → ∃ z, c = .int .u64 z ∧ 0 ≤ z ∧ z < 18446744073709551616 := fun {c y fu} hy hs => by
    cases y with
    | none => cases hs
    | some y =>
      obtain ⟨z0, h0, _, b0⟩ := DataW.trod_int Tryd.underlying38 hy
      simp only [List.cons.injEq, and_true] at h0
      have := bounds_u64 b0
      exact ⟨z0, h0, this.1, by omega⟩
  have hs : ∀ i, i < 4 → (xs[i]?).isSome = true := fun i hi => by rw [List.getElem?_eq_getElem (by omega)]; rfl
  obtain ⟨z0, r0, a0⟩ := g f0 (by have := hs 0 (by decide); simpa using this)
  obtain ⟨z1, r1, a1⟩ := g f1 (by have := hs 1 (by decide); simpa using this)
  obtain ⟨z2, r2, a2⟩ := g f2 (by have := hs 2 (by decide); simpa using this)
  obtain ⟨z3, r3, a3⟩ := g f3 (by have := hs 3 (by decide); simpa using this)
  subst r0 r1 r2 r3
  exact ⟨⟨z0, z1, z2, z3⟩, rfl, ⟨a0, a1, a2, a3⟩⟩
set_option maxRecDepth 20000 in
theorem tok_open {H : Type} {enc : TypeId × Value → H} {W : World} {fuel : Nat} {c0 c1 c2 c3 c4 c5 c6 c7 c8 c9 c10 c11 c12 c13 c14 c15 c16 c17 c18 c19 c20 : Value} {x : DataW H × List MemPlace} (h : DataW.trod enc Tryd.prog W 0 (fun _ => true) true fuel 48 [c0, c1, c2, c3, c4, c5, c6, c7, c8, c9, c10, c11, c12, c13, c14, c15, c16, c17, c18, c19, c20] = some x) :
    ∃ (t : Tk) (pc : Option Addr) (cc : Nat), [c0, c1, c2, c3, c4, c5, c6, c7, c8, c9, c10, c11, c12, c13, c14, c15, c16, c17, c18, c19, c20] = tkC t pc cc := by
  obtain ⟨ys, k, _, hx', _, hyl, hfl⟩ := DataW.trod_struct Tryd.underlying48 h
  obtain ⟨⟨e0, q0⟩, ⟨e1, q1⟩, ⟨e2, q2⟩, ⟨e3, q3⟩, ⟨e4, q4⟩, ⟨e5, q5⟩, ⟨e6, q6⟩, ⟨e7, q7⟩, ⟨e8, q8⟩, ⟨e9, q9⟩, ⟨e10, q10⟩, ⟨e11, q11⟩, ⟨e12, q12⟩, ⟨e13, q13⟩, ⟨e14, q14⟩, ⟨e15, q15⟩, ⟨e16, q16⟩, ⟨e17, q17⟩, ⟨e18, q18⟩, rfl⟩ := tlist19 hyl
  have f0 := hfl 0 _ rfl
  have f1 := hfl 1 _ rfl
  have f2 := hfl 2 _ rfl
  have f3 := hfl 3 _ rfl
  have f4 := hfl 4 _ rfl
  have f5 := hfl 5 _ rfl
  have f6 := hfl 6 _ rfl
  have f7 := hfl 7 _ rfl
  have f8 := hfl 8 _ rfl
  have f9 := hfl 9 _ rfl
  have f10 := hfl 10 _ rfl
  have f11 := hfl 11 _ rfl
  have f12 := hfl 12 _ rfl
  have f13 := hfl 13 _ rfl
  have f14 := hfl 14 _ rfl
  have f15 := hfl 15 _ rfl
  have f16 := hfl 16 _ rfl
  have f17 := hfl 17 _ rfl
  have f18 := hfl 18 _ rfl
  simp [cellsSp, cellsWs, cellsU, cellsStr, cellsInt, cellsOp, cellsPr, cellsPs] at f0 f1 f2 f3 f4 f5 f6 f7 f8 f9 f10 f11 f12 f13 f14 f15 f16 f17 f18
  obtain ⟨z0, h0, _⟩ := DataW.trod_int Tryd.underlying44 f0
  obtain ⟨z2, h2, _⟩ := DataW.trod_int Tryd.underlying3 f2
  obtain ⟨z3, h3, _⟩ := DataW.trod_int Tryd.underlying3 f3
  obtain ⟨z4, h4, _⟩ := DataW.trod_int Tryd.underlying3 f4
  obtain ⟨z5, h5, _⟩ := DataW.trod_int Tryd.underlying3 f5
  obtain ⟨z6, h6, _⟩ := DataW.trod_int Tryd.underlying37 f6
  obtain ⟨z7, h7, _⟩ := DataW.trod_int Tryd.underlying3 f7
  obtain ⟨z8, h8, _⟩ := DataW.trod_int Tryd.underlying45 f8
  obtain ⟨z9, h9, _⟩ := DataW.trod_int Tryd.underlying38 f9
  obtain ⟨z10, h10, _⟩ := DataW.trod_int Tryd.underlying38 f10
  obtain ⟨z11, h11, _⟩ := DataW.trod_int Tryd.underlying38 f11
  obtain ⟨z13, h13, _⟩ := DataW.trod_int Tryd.underlying38 f13
  obtain ⟨z14, h14, _⟩ := DataW.trod_int Tryd.underlying3 f14
  obtain ⟨z15, h15, _⟩ := DataW.trod_int Tryd.underlying3 f15
  obtain ⟨z18, h18, _⟩ := DataW.trod_int Tryd.underlying3 f18
  obtain ⟨s1, h1, _⟩ := DataW.trod_string Tryd.underlying9 f1
  obtain ⟨pa, al, ca, h12, _⟩ := words_open f12
  obtain ⟨s16, r16, t16, _⟩ := spot_open f16
  obtain ⟨s17, r17, t17, _⟩ := spot_open f17
  simp only [List.cons.injEq, and_true] at h0 h1 h2 h3 h4 h5 h6 h7 h8 h9 h10 h11 h13 h14 h15 h18
  subst h0 h1 h2 h3 h4 h5 h6 h7 h8 h9 h10 h11 h13 h14 h15 h18 h12 r16 t16 r17 t17
  exact ⟨⟨z0, s1, z2, z3, z4, z5, z6, z7, z8, z9, z10, z11, al, z13, z14, z15, s16, s17, z18⟩, pa, ca, rfl⟩
set_option maxRecDepth 20000 in
theorem ops_open {H : Type} {enc : TypeId × Value → H} {W : World} {fuel : Nat} {v : Value} {x : DataW H × List MemPlace} (h : DataW.trod enc Tryd.prog W 0 (fun _ => true) true fuel 23 [v] = some x)
    (hw : (x.1.weights Tryd.prog 23).all (· ≤ reachBytes) = true) :
    ∃ ps os cp, v = .slice ps os.length cp ∧ OpsR W ps os := by
  rcases Go.Deep.open_slice Tryd.underlying23 h with ⟨hcs, hx⟩ | ⟨a, len, cap, m, n, D, Pl, hcs, _, hl, hm, hmm, hx, hel⟩
  · obtain rfl : v = .slice none 0 0 := by simpa using hcs
    exact ⟨none, [], 0, rfl, ⟨fun i t ht => by cases ht⟩⟩
  · obtain rfl : v = .slice (some a) len cap := by simpa using hcs
    simp only [if_true] at hmm
    subst m
    rw [cellsO1] at hel
    have he : x.1 = .slice ((List.range len).map D) ((List.range (cap - len)).map fun j => D (len + j)) := by rw [hx]
    rw [he] at hw
    have one : ∀ i, i < len → ∃ o : Op1, ∃ pc cc, (∀ (j : Nat) (u : Value), (opC o pc cc)[j]? = some u → W.cell? (a.add (i * 40 + j)) = some u) ∧ OpOk o := by
      intro i hi
      obtain ⟨cs', hc, ht⟩ := hel i (by omega)
      obtain ⟨_, hlen, hcell⟩ := World.cells?_some hc
      obtain ⟨c0, c1, c2, c3, c4, c5, c6, c7, c8, c9, c10, c11, c12, c13, c14, c15, c16, c17, c18, c19, c20, c21, c22, c23, c24, c25, c26, c27, c28, c29, c30, c31, c32, c33, c34, c35, c36, c37, c38, c39, rfl⟩ := tlist40 hlen
      obtain ⟨ys, k, _, hx', _, hyl, hfl⟩ := DataW.trod_struct Tryd.underlying50 ht
      obtain ⟨⟨e0, q0⟩, ⟨e1, q1⟩, ⟨e2, q2⟩, ⟨e3, q3⟩, ⟨e4, q4⟩, ⟨e5, q5⟩, ⟨e6, q6⟩, ⟨e7, q7⟩, ⟨e8, q8⟩, rfl⟩ := tlist9 hyl
      have f0 := hfl 0 _ rfl
      have f1 := hfl 1 _ rfl
      have f2 := hfl 2 _ rfl
      have f3 := hfl 3 _ rfl
      have f4 := hfl 4 _ rfl
      have f5 := hfl 5 _ rfl
      have f6 := hfl 6 _ rfl
      have f7 := hfl 7 _ rfl
      have f8 := hfl 8 _ rfl
      simp [cellsHd, cellsTk, cellsF4, cellsU, cellsStr, cellsInt, cellsPr] at f0 f1 f2 f3 f4 f5 f6 f7 f8
      obtain ⟨z0, h0, _⟩ := DataW.trod_int Tryd.underlying3 f0
      obtain ⟨z1, h1, _, b1⟩ := DataW.trod_int Tryd.underlying3 f1
      obtain ⟨z2, h2, _, b2⟩ := DataW.trod_int Tryd.underlying3 f2
      obtain ⟨z3, h3, _⟩ := DataW.trod_int Tryd.underlying37 f3
      obtain ⟨z4, h4, _, b4⟩ := DataW.trod_int Tryd.underlying38 f4
      obtain ⟨s5, h5, j5, -⟩ := DataW.trod_string Tryd.underlying9 f5
      have hS5 : e5 = .lit (.string s5.data.toList) := congrArg Prod.fst j5
      have d2 := bounds_i64 b2
      have d1 := bounds_i64 b1
      have d4 := bounds_u64 b4
      obtain ⟨d, h6⟩ := head_open f6
      obtain ⟨v4, h7, o7⟩ := four_open f7
      obtain ⟨t8, pc, cc, h8⟩ := tok_open f8
      simp only [List.cons.injEq, and_true] at h0 h1 h2 h3 h4 h5
      subst h0 h1 h2 h3 h4 h5
      have hD : D i = .agg [e0, e1, e2, e3, e4, e5, e6, e7, e8] := by
        have := congrArg Prod.fst hx'
        simpa using this
      have hNM : s5.size ≤ 140737488351232 := by
        have h1 := List.all_eq_true.1 hw s5.size (by
          have hm1 : s5.size ∈ (D i).weights Tryd.prog 50 := by
            rw [hD]
            simp only [DataW.weights, Tryd.underlying50]
            exact DataW.weights_mem_each (j := 5) rfl rfl s5.size (by rw [hS5]; show s5.size ∈ [s5.data.toList.length]; rw [Array.length_toList]; exact List.mem_singleton.2 rfl)
          simp only [DataW.weights, Tryd.underlying23, List.mem_cons, List.mem_append]
          exact .inr (.inl (weightsAll_mem hm1 (List.mem_map.2 ⟨i, List.mem_range.2 hi, rfl⟩))))
        exact of_decide_eq_true h1
      refine ⟨⟨z0, z1, z2, z3, z4, s5, d, v4, t8⟩, pc, cc, fun j u hu => ?_, ⟨d2.2, ⟨d4.1, Int.lt_of_le_of_lt d4.2 (by decide)⟩, Nat.le_trans hNM (by decide), o7, d1, d2⟩⟩
      have hj : j < 40 := (List.getElem?_eq_some_iff.1 hu).1
      have g := hcell j (by simpa using hj)
      rw [Go.Deep.add_add] at g
      rw [g]
      have e : [.int .i64 z0, .int .i64 z1, .int .i64 z2, .int .i64 z3, .int .u64 z4, .string s5, c6, c7, c8, c9, c10, c11, c12, c13, c14, c15, c16, c17, c18, c19, c20, c21, c22, c23, c24, c25, c26, c27, c28, c29, c30, c31, c32, c33, c34, c35, c36, c37, c38, c39] = opC ⟨z0, z1, z2, z3, z4, s5, d, v4, t8⟩ pc cc := by
        rw [opC_eq]
        show Value.int .i64 z0 :: Value.int .i64 z1 :: Value.int .i64 z2 :: Value.int .i64 z3 :: Value.int .u64 z4 :: Value.string s5 :: ([c6, c7, c8, c9, c10, c11, c12, c13, c14] ++ ([c15, c16, c17, c18] ++ [c19, c20, c21, c22, c23, c24, c25, c26, c27, c28, c29, c30, c31, c32, c33, c34, c35, c36, c37, c38, c39])) = _
        rw [h6, h7, h8]
        rfl
      rw [e]
      exact hu
    haveI : Inhabited Op1 := ⟨⟨0, 0, 0, 0, 0, ByteArray.empty, ⟨0, ⟨0, 0⟩, ⟨0, 0⟩, ⟨0, 0⟩, ⟨0, 0⟩⟩, ⟨0, 0, 0, 0⟩, ⟨0, ByteArray.empty, 0, 0, 0, 0, 0, 0, 0, 0, 0, 0, [], 0, 0, 0, ⟨0, 0⟩, ⟨0, 0⟩, 0⟩⟩⟩
    obtain ⟨f, hf⟩ := Go.Deep.choose_lt one
    refine ⟨some a, (List.range len).map f, cap, by simp, ⟨fun i t ht => ?_⟩⟩
    rw [List.getElem?_map] at ht
    by_cases hi : i < len
    · rw [List.getElem?_range hi] at ht
      cases ht
      obtain ⟨pc, cc, h0, h1⟩ := hf i hi
      obtain ⟨g, o, spot⟩ := a
      have hspot : spot = none := by
        obtain ⟨_, _, h00, _⟩ := hf 0 (by omega)
        simpa [Addr.add] using World.cell?_spot (h00 0 _ rfl)
      subst hspot
      have hM : OpM W g (o + i * 40) (f i) pc cc := ⟨fun j u hu => by
        have := h0 j u hu
        rw [addr_at] at this
        rw [Nat.add_assoc]
        exact this⟩
      exact ⟨g, o, pc, cc, rfl, lt_of_cell (a := ⟨g, o + i * 40 + 0, none⟩) (hM.c 0 _ rfl), hM, h1⟩
    · rw [List.getElem?_eq_none (by simp; omega)] at ht
      cases ht
/-- Bytes handed in. -/
theorem bytes_open {H : Type} {enc : TypeId × Value → H} {W : World} {fuel : Nat} {v : Value} {x : DataW H × List MemPlace} (h : DataW.trod enc Tryd.prog W 0 (fun _ => true) true fuel 22 [v] = some x) (hw : (x.1.weights Tryd.prog 22).all (· ≤ reachBytes) = true) :
    ∃ (a : Option Addr) (L C : Nat) (bi : Nat → Int), v = .slice a L C ∧ Arg W a L bi ∧ (∀ j, 0 ≤ bi j ∧ bi j ≤ 255) ∧ L + 4096 ≤ 140737488355328 := by
  rcases open_ints Tryd.underlying22 Tryd.underlying5 cellsB h with ⟨hcs, hx0⟩ | ⟨ad, len, cap, zs, hcs, _, hl, hm, hz, hx0, hcell, hwz⟩
  · simp only [List.cons.injEq, and_true] at hcs
    subst hcs
    exact ⟨none, 0, 0, fun _ => 0, rfl, ⟨fun _ => rfl, (fun ad h => by cases h)⟩, fun _ => ⟨by simp, by simp⟩, by decide⟩
  · simp only [List.cons.injEq, and_true] at hcs
    subst hcs
    simp at hz
    have hr := range_u8 hwz
    refine ⟨some ad, len, cap, fun j => zs.getD j 0, rfl, ⟨(fun h => by cases h), (fun ad' h j hj => by cases h; exact hcell j (by omega))⟩, fun j => by simpa [List.getD] using hr j, ?_⟩
    have he0 : x.1 = .slice (lits .u8 (zs.take len)) (lits .u8 (zs.drop len)) := congrArg Prod.fst hx0
    rw [he0] at hw
    have h2 := List.all_eq_true.1 hw (((lits (H := H) .u8 (zs.take len)).length + (lits (H := H) .u8 (zs.drop len)).length) * Tryd.prog.bytesOf 5) (by simp [DataW.weights, Tryd.underlying22])
    rw [bytesB] at h2
    simp [lits, reachBytes] at h2
    omega
end Go.Proofs.YtgklippjoikadaaDoor
