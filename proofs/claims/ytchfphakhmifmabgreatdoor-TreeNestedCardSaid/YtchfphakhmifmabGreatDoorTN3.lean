/- TFx, TNl. -/
import Derived.Test.YtchfphakhmifmabGreatDoorTA4
import Derived.Test.YtchfphakhmifmabGreatDoorTN1
import Derived.Test.YtchfphakhmifmabGreatDoorTN2
import Derived.Deep.CutBlock
import Derived.Laws.OwnMore
import Derived.Laws.MakeOwn
namespace Go.Proofs.YtchfphakhmifmabGreatDoor
open Go.ChangeShapes Go.WideShapes Go.ChangeAt Go.RowKit Go.Shelf Go.Lib

/-- <a x='1'>b<c/>d<!--e--></a> -/
abbrev fixS : ByteArray := ⟨#[60, 97, 32, 120, 61, 39, 49, 39, 62, 98, 60, 99, 47, 62, 100, 60, 33, 45, 45, 101, 45, 45, 62, 60, 47, 97, 62]⟩
theorem parse_fix : parseZ fixS = ([⟨1, ⟨#[97]⟩, [⟨⟨#[120]⟩, ⟨#[49]⟩, 3⟩], ⟨#[98, 100]⟩, 0⟩, ⟨2, ⟨#[99]⟩, [], ⟨#[]⟩, 10⟩], 0, 0) := by kernel_rfl
theorem fnum_any (e : Int) (w : World) : Calls Tryz.prog 12 #[.int .i64 e] w fun r w' => r = .returned (.int .i64 e) ∧ w' = w := by
  go_enter Tryz.func12, Tryz.ntmps12
  go_wp2_with fail
  go_ret
  exact ⟨rfl, rfl⟩
set_option maxHeartbeats 4000000 in
theorem fixed_any (w : World) (hE : Env w) (h7 : 7 ≤ w.heap.size) : Calls Tryz.prog 7 #[] w fun e w' => e = .returned (.bool true) ∧ Below w.heap.size w w' := by
  have c := Parse_any fixS w hE h7 (by decide)
  unfold ParseU at c
  rw [parse_fix] at c
  dsimp only at c
  have c2 : Calls Tryz.prog 10 #[.string fixS] w fun e w' => ∃ g o c ga oa ca, e = .returned (.tuple #[.slice (some ⟨g, o, none⟩) 2 c, .int .i64 0, .int .i64 0]) ∧ Below w.heap.size w w' ∧ w'.cell? ⟨g, o + 3, none⟩ = some (.string ⟨#[98, 100]⟩) ∧ w'.cell? ⟨g, o + 5 + 1, none⟩ = some (.string ⟨#[99]⟩) ∧ w'.cell? ⟨g, o + 5, none⟩ = some (.int .i64 2) ∧ w'.cell? ⟨g, o + 5 + 4, none⟩ = some (.int .i64 10) ∧
      w'.cell? ⟨g, o + 2, none⟩ = some (.slice (some ⟨ga, oa, none⟩) 1 ca) ∧ w'.cell? ⟨ga, oa, none⟩ = some (.string ⟨#[120]⟩) ∧ w'.cell? ⟨ga, oa + 1, none⟩ = some (.string ⟨#[49]⟩) ∧ w'.cell? ⟨ga, oa + 2, none⟩ = some (.int .i64 3) := by
    refine c.mono ?_
    rintro e w' ⟨p, c, rfl, hb, hr⟩
    obtain ⟨g, o, pa, ca, rfl, _, a0, a1, a2, a3, a4, hA⟩ := hr.c 0 _ rfl
    obtain ⟨g', o', pa', ca', e', _, b0, b1, b2, b3, b4, _⟩ := hr.c 1 _ rfl
    cases e'
    obtain ⟨ga, oa, rfl, _, d0, d1, d2⟩ := hA.c 0 _ rfl
    simp only [Nat.zero_mul, Nat.add_zero, Nat.one_mul] at a0 a1 a2 a3 a4 b0 b1 b2 b3 b4 d0 d1 d2
    exact ⟨g, o, c, ga, oa, ca, rfl, hb, a3, b1, b0, b4, a2, d0, d1, d2⟩
  clear c
  go_enter Tryz.func7, Tryz.ntmps7
  go_wp2_with (first
    | (go_at_call 10; refine c2.mono ?_; rintro _ w1 ⟨g, o, c, ga, oa, ca, rfl, hb, q1, q2, q3, q4, q5, q6, q7, q8⟩)
    | (go_at_call 12; refine (fnum_any _ _).mono ?_; rintro _ w' ⟨rfl, hw'⟩; replace hw' := hw'.symm; subst hw'))
  go_ret
  exact ⟨rfl, hb⟩
end Go.Proofs.YtchfphakhmifmabGreatDoor
namespace Go.Proofs.YtchfphakhmifmabGreatDoor
open Go.ChangeShapes Go.WideShapes Go.ChangeAt Go.RowKit Go.Shelf Go.Lib
attribute [local go_sem] Oper.semAt_some

theorem SdRow.below {w w' : World} {pp : Option Addr} {H : Nat} {sd : List Sd} (h : SdRow w pp H sd) (hb : Below H w w') : SdRow w' pp H sd :=
  ⟨fun i e he => by
    obtain ⟨g, o, pa, ca, e0, hg, c0, c1, c2, c3, hS⟩ := h.c i e he
    exact ⟨g, o, pa, ca, e0, hg, (hb.cell (p := ⟨g, _, none⟩) hg).trans c0, (hb.cell (p := ⟨g, _, none⟩) hg).trans c1, (hb.cell (p := ⟨g, _, none⟩) hg).trans c2, (hb.cell (p := ⟨g, _, none⟩) hg).trans c3, ⟨fun j s hs => by
      obtain ⟨g', o', e', hg', hc'⟩ := hS.c j s hs
      exact ⟨g', o', e', hg', (hb.cell (p := ⟨g', _, none⟩) hg').trans hc'⟩⟩⟩⟩
theorem SdRow.mono {w : World} {pp : Option Addr} {H H' : Nat} {sd : List Sd} (h : SdRow w pp H sd) (hH : H ≤ H') : SdRow w pp H' sd :=
  ⟨fun i e he => by
    obtain ⟨g, o, pa, ca, e0, hg, c0, c1, c2, c3, hS⟩ := h.c i e he
    exact ⟨g, o, pa, ca, e0, by omega, c0, c1, c2, c3, ⟨fun j s hs => by
      obtain ⟨g', o', e', hg', hc'⟩ := hS.c j s hs
      exact ⟨g', o', e', by omega, hc'⟩⟩⟩⟩
theorem MD.erow {W : World} {bot : Nat} {vE : Value} {f : Nat → Rw} {ex : List Elx} (h : MD W bot vE f ex) : ∃ p c, vE = .slice p ex.length c ∧ ERow W p W.heap.size (ex.map Elx.e) := by
  obtain ⟨p, c, e6⟩ := own_sl h.own
  refine ⟨p, c, e6, ⟨fun i e hi => ?_⟩⟩
  rw [List.getElem?_map] at hi
  obtain ⟨x, hx, rfl⟩ := Option.map_eq_some_iff.1 hi
  have h1 := h.own
  obtain ⟨g, cap, eg⟩ := own_shape h1 (show 0 < ex.length by have := (List.getElem?_eq_some_iff.1 hx).1; omega)
  rw [e6] at eg
  injection eg with eg _ _
  subst eg
  rw [e6] at h1
  have a0 := own_get h1 (o := i * 5 + 0) (flat_get elC 5 elC_len _ i x hx 0 (by decide))
  have a1 := own_get h1 (o := i * 5 + 1) (flat_get elC 5 elC_len _ i x hx 1 (by decide))
  have a2 := own_get h1 (o := i * 5 + 2) (flat_get elC 5 elC_len _ i x hx 2 (by decide))
  have a3 := own_get h1 (o := i * 5 + 3) (flat_get elC 5 elC_len _ i x hx 3 (by decide))
  have a4 := own_get h1 (o := i * 5 + 4) (flat_get elC 5 elC_len _ i x hx 4 (by decide))
  have hA : W.ownsRow bot 54 3 x.av x.e.ats.length (attCells x.e.ats) := by
    have := h.pf.own (1 + i)
    rw [h.fa i x hx] at this
    exact this
  have hAr : ∃ pa ca, x.av = .slice pa x.e.ats.length ca ∧ ARow W pa W.heap.size x.e.ats := by
    rcases hA.2 with ⟨e1, h0⟩ | ⟨g', cap', cur, e1, hb, hg, hn, hm, hs, hxx⟩
    · refine ⟨none, 0, by rw [e1, h0], ⟨fun j t ht => ?_⟩⟩
      rw [List.eq_nil_of_length_eq_zero h0] at ht
      cases ht
    · refine ⟨_, cap', e1, ⟨fun j t ht => ?_⟩⟩
      rw [e1] at hA
      have b0 := own_get hA (o := j * 3 + 0) (flat_get attC 3 (fun _ => rfl) _ j t ht 0 (by decide))
      have b1 := own_get hA (o := j * 3 + 1) (flat_get attC 3 (fun _ => rfl) _ j t ht 1 (by decide))
      have b2 := own_get hA (o := j * 3 + 2) (flat_get attC 3 (fun _ => rfl) _ j t ht 2 (by decide))
      exact ⟨g', 0, rfl, (Array.getElem?_eq_some_iff.1 hg).1, by rw [Nat.zero_add]; exact b0.1, by rw [Nat.zero_add]; exact b1.1, by rw [Nat.zero_add]; exact b2.1⟩
  obtain ⟨pa, ca, hav, hAR⟩ := hAr
  refine ⟨g, 0, pa, ca, rfl, a0.2.2.2, ?_, ?_, ?_, ?_, ?_, hAR⟩
  · rw [Nat.zero_add]; exact a0.1
  · rw [Nat.zero_add]; exact a1.1
  · rw [Nat.zero_add, ← hav]; exact a2.1
  · rw [Nat.zero_add]; exact a3.1
  · rw [Nat.zero_add]; exact a4.1
/-- Numbers in memory. -/
structure OA (w : World) (G : Nat) (O : List Nat) : Prop where
  c : ∀ (q v : Nat), O[q]? = some v → w.cell? ⟨G, q, none⟩ = some (.int .i64 (v : Int))
  fz : ∀ o, w.frozen? ⟨G, o, none⟩ = false
  lt : G < w.heap.size
theorem OA.same {w w' : World} {G : Nat} {O : List Nat} (h : OA w G O) (hb : w'.heap[G]? = w.heap[G]?) (hs : w.heap.size ≤ w'.heap.size) : OA w' G O :=
  ⟨fun q v hq => by rw [← h.c q v hq]; simp only [World.cell?, hb], fun o => by rw [← h.fz o]; simp only [World.frozen?, hb], Nat.lt_of_lt_of_le h.lt hs⟩
theorem OA.set {w : World} {G : Nat} {O : List Nat} (h : OA w G O) (k v : Nat) : OA (w.setCell ⟨G, k, none⟩ (.int .i64 (v : Int))) G (O.set k v) :=
  ⟨fun q u hq => by
    rw [List.getElem?_set] at hq
    by_cases e : k = q
    · subst e
      rw [if_pos rfl] at hq
      split at hq
      · rename_i hl
        cases hq
        obtain ⟨u, hu⟩ : ∃ u, O[k]? = some u := ⟨O[k], List.getElem?_eq_getElem hl⟩
        exact World.cell?_setCell_same w ⟨G, k, none⟩ _ (h.c k u hu)
      · cases hq
    · rw [if_neg e] at hq
      rw [World.cell?_setCell_other w _ _ _ (fun e' => e (by injection e' with _ e2))]
      exact h.c q u hq,
    fun o => by rw [World.frozen?_setCell]; exact h.fz o, by simpa [World.setCell] using h.lt⟩
theorem OA.make {w : World} {n : Nat} : OA (w.alloc (.cells (madeCells #[.int .i64 0] n) 3)) w.heap.size (List.replicate n 0) := by
  have hh := theap_new w (.cells (madeCells #[.int .i64 0] n) 3)
  refine ⟨fun q v hq => ?_, fun o => by simp only [World.frozen?, hh]; simp, by rw [World.size_alloc]; omega⟩
  rw [List.getElem?_replicate] at hq
  split at hq
  · rename_i hl
    cases hq
    have hl2 := toList_madeCells_one (.int .i64 0) n
    simp only [World.cell?, hh]
    have : (madeCells #[Value.int .i64 0] n)[q]? = (madeCells #[Value.int .i64 0] n).toList[q]? := by simp
    show (madeCells #[Value.int .i64 0] n)[q]? = _
    rw [this, hl2, List.getElem?_replicate, if_pos hl]
    rfl
  · cases hq
theorem neq_seq_some (fuel : Nat) (fn : Fn) (a b : Array Value) (w : World) : (Op.equalIn (fuel + 1) 28 (.func fn a b) .nilFunc).run Tryz.prog w = .ok false w := by
  simp [Op.equalIn, run_underlying Tryz.underlying28]
theorem neq_seq_nil (fn : Fn) (a b : Array Value) (w : World) : (binOp .eql 28 (.func fn a b) .nilFunc).run Tryz.prog w = .ok (.bool false) w := by
  simp only [binOp]
  simp [show Op.equal 28 (.func fn a b) .nilFunc = Op.equalIn (9999 + 1) 28 (.func fn a b) .nilFunc from rfl, neq_seq_some 9999 fn a b w]
/-- The law's frame ahead of a round; in the body of the ranging. -/
abbrev NA (R H Bi : Nat) (u : Nat → Value) : Array Value := #[u 0, u 1, .pointer (some ⟨R, 0, none⟩), .pointer (some ⟨H, 0, none⟩), .pointer (some ⟨H + 2, 0, none⟩), .pointer (some ⟨H + 3, 0, none⟩), .pointer (some ⟨Bi, 0, none⟩), u 7, u 8, u 9, u 10, u 11, u 12, u 13, u 14, u 15, u 16, u 17, u 18, u 19, u 20, u 21, u 22, u 23, u 24, u 25, u 26, u 27, u 28, u 29, u 30, u 31, u 32, u 33, u 34, u 35, u 36, u 37, u 38, u 39, u 40, u 41, u 42, u 43, u 44, u 45, u 46, u 47, u 48, u 49, u 50, u 51, u 52, u 53, u 54, u 55, u 56, u 57, u 58, u 59, u 60, u 61, u 62, u 63, u 64, u 65, u 66, u 67, u 68, u 69, u 70, u 71, u 72, u 73, u 74, u 75, u 76, u 77, u 78, u 79, u 80, u 81, u 82, u 83, u 84, u 85, u 86, u 87, u 88, u 89, u 90, u 91, u 92, u 93]
abbrev NB (R H Bi Bl : Nat) (F : Value) (x : Int) (u : Nat → Value) : Array Value := #[u 0, u 1, .pointer (some ⟨R, 0, none⟩), .pointer (some ⟨H, 0, none⟩), .pointer (some ⟨H + 2, 0, none⟩), .pointer (some ⟨H + 3, 0, none⟩), .pointer (some ⟨Bi, 0, none⟩), .pointer (some ⟨Bl, 0, none⟩), F, .int .i64 x, u 10, u 11, u 12, u 13, u 14, u 15, u 16, u 17, u 18, u 19, u 20, u 21, u 22, u 23, u 24, u 25, u 26, u 27, u 28, u 29, F, u 31, u 32, u 33, u 34, u 35, u 36, u 37, u 38, u 39, u 40, u 41, u 42, u 43, u 44, u 45, u 46, u 47, u 48, u 49, u 50, u 51, u 52, u 53, u 54, u 55, u 56, u 57, u 58, u 59, u 60, u 61, u 62, u 63, u 64, u 65, u 66, u 67, u 68, u 69, u 70, u 71, u 72, u 73, u 74, u 75, u 76, u 77, u 78, u 79, u 80, u 81, u 82, u 83, u 84, u 85, u 86, u 87, u 88, u 89, u 90, u 91, u 92, u 93]
abbrev NC (R H Bi Bl : Nat) (F : Value) (u : Nat → Value) : Array Value := #[u 0, u 1, .pointer (some ⟨R, 0, none⟩), .pointer (some ⟨H, 0, none⟩), .pointer (some ⟨H + 2, 0, none⟩), .pointer (some ⟨H + 3, 0, none⟩), .pointer (some ⟨Bi, 0, none⟩), .pointer (some ⟨Bl, 0, none⟩), F, u 9, u 10, u 11, u 12, u 13, u 14, u 15, u 16, u 17, u 18, u 19, u 20, u 21, u 22, u 23, u 24, u 25, u 26, u 27, u 28, u 29, F, u 31, u 32, u 33, u 34, u 35, u 36, u 37, u 38, u 39, u 40, u 41, u 42, u 43, u 44, u 45, u 46, u 47, u 48, u 49, u 50, u 51, u 52, u 53, u 54, u 55, u 56, u 57, u 58, u 59, u 60, u 61, u 62, u 63, u 64, u 65, u 66, u 67, u 68, u 69, u 70, u 71, u 72, u 73, u 74, u 75, u 76, u 77, u 78, u 79, u 80, u 81, u 82, u 83, u 84, u 85, u 86, u 87, u 88, u 89, u 90, u 91, u 92, u 93]
/-- The number in the loop's box. -/
def boxI (a : Act) (W : World) : Nat := match a.tmps.getD 6 undef with
  | .pointer (some p) => (RowKit.intOf ((W.cell? p).getD undef)).toNat
  | _ => 0
/-- What the law's loop holds. -/
structure NR (W wr : World) (H Bi n i : Nat) (vE : Value) (O : List Nat) : Prop where
  bel : Below H W wr
  e : wr.heap[H]? = some (.cells #[vE] 24)
  g : OA wr (H + 1) O
  o : wr.heap[H + 2]? = some (.cells #[.slice (some ⟨H + 1, 0, none⟩) n n] 26)
  m : wr.heap[H + 3]? = some (.cells #[.int .i64 (nz O : Int)] 3)
  b : wr.heap[Bi]? = some (.cells #[.int .i64 (i : Int)] 3)
  hi : H + 4 ≤ Bi
theorem NR.below {W wr w' : World} {H Bi n i : Nat} {vE : Value} {O : List Nat} (h : NR W wr H Bi n i vE O) (hb : Below wr.heap.size wr w') : NR W w' H Bi n i vE O := by
  have lt : ∀ {k : Nat} {x : Obj}, wr.heap[k]? = some x → k < wr.heap.size := fun h => (Array.getElem?_eq_some_iff.1 h).1
  have hH : H ≤ wr.heap.size := Nat.le_of_lt (lt h.e)
  exact ⟨h.bel.trans (hb.mono hH), (hb.block _ (lt h.e)).trans h.e, h.g.same (hb.block _ h.g.lt) hb.size, (hb.block _ (lt h.o)).trans h.o, (hb.block _ (lt h.m)).trans h.m, (hb.block _ (lt h.b)).trans h.b, h.hi⟩
/-- Blocks ahead of N agree. -/
theorem NR.far {W A B : World} {H Bi n i N : Nat} {vE : Value} {O : List Nat} (h : NR W A H Bi n i vE O) (hk : ∀ k, k < N → B.heap[k]? = A.heap[k]?) (hs : A.heap.size ≤ B.heap.size) (os : B.os = A.os) (tape : B.tape = A.tape) (out : B.output = A.output) (hN : H + 4 ≤ N) (hB : Bi < N) : NR W B H Bi n i vE O :=
  ⟨⟨os.trans h.bel.os, tape.trans h.bel.tape, out.trans h.bel.output, Nat.le_trans h.bel.size hs, fun k hk1 => (hk k (by omega)).trans (h.bel.block k hk1)⟩, (hk _ (by omega)).trans h.e, h.g.same (hk _ (by omega)) hs, (hk _ (by omega)).trans h.o, (hk _ (by omega)).trans h.m, (hk _ hB).trans h.b, h.hi⟩
/-- Only draws lie between. -/
structure DrW (A B : World) : Prop where
  h : B.heap = A.heap
  os : B.os = A.os
  tape : B.tape = A.tape
  output : B.output = A.output
theorem DrW.refl (A : World) : DrW A A := ⟨rfl, rfl, rfl, rfl⟩
theorem DrW.drewN {A B : World} (h : DrW A B) (n : Nat) : DrW A (B.drewN n) := ⟨h.h, h.os, h.tape, h.output⟩
theorem DrW.cell {A B : World} (h : DrW A B) (a : Addr) : B.cell? a = A.cell? a := by simp only [World.cell?, h.h]
theorem DrW.fz {A B : World} (h : DrW A B) (a : Addr) : B.frozen? a = A.frozen? a := by simp only [World.frozen?, h.h]
theorem DrW.below {A B : World} (h : DrW A B) (n : Nat) : Below n A B := ⟨h.os, h.tape, h.output, by rw [h.h]; exact Nat.le_refl _, fun k _ => by rw [h.h]⟩
theorem MarksOk.cells {n₀ g o : Nat} {v : Value} {cs : Array Value} {t : TypeId} {fr : Nat × Nat} : ∀ {ds : List Deferred} {W : World}, W.heap[g]? = some (.cells cs t fr) → MarksOk n₀ ds W → MarksOk n₀ ds (W.setCell ⟨g, o, none⟩ v)
  | [], _, _, _ => trivial
  | _ :: _, W, hg, ⟨D', h1, h2, h3, h4, h5⟩ => ⟨D', h1, h2, (Below.heap_setCell W _ _ _ (show D' ≠ g from fun e => by subst e; rw [hg] at h3; cases h3)).trans h3, h4, MarksOk.cells hg h5⟩
theorem kidsN_A (es : List El) (i : Nat) : kidsN es (i : Int) = kidsA es i := by
  unfold kidsN kidsA
  rw [if_pos (by omega), Int.toNat_natCast]
  all_goals (cases es[i]? <;> rfl)
theorem last_lt {es : List El} {i x : Nat} {pre post : List Nat} (h : kidsA es i = pre ++ x :: post) : pre.getLastD i < x := by
  have hm : x ∈ kidsA es i := by rw [h]; simp
  obtain ⟨h1, h2, h3⟩ := kidsA_lt hm
  obtain ⟨a, ha⟩ : ∃ a, es[i]? = some a := ⟨es[i], List.getElem?_eq_getElem h3⟩
  rcases List.eq_nil_or_concat pre with rfl | ⟨p, y, rfl⟩
  · exact h1
  · have hr : (kidsA es i).Pairwise (· < ·) := by unfold kidsA; rw [ha]; exact kidsG_rise _ _ _
    rw [h, List.pairwise_append] at hr
    have := hr.2.2 y (by simp) x (List.mem_cons_self ..)
    simpa using this
theorem nleaves_marks {n n₀ : Nat} {fn : Func} {tmps : Array Value} {R : Ending → World → Prop} : ∀ (ds : List Deferred) (W : World), MarksOk n₀ ds W →
    (∀ W', Below n₀ W W' → LeavesIn Fence.wide n Tryz.prog fn tmps R [] .returning W') → LeavesInM Fence.wide n Tryz.prog fn tmps R ds .returning W
  | [], W, _, h => h W (Below.refl _ _)
  | d :: ds, W, ⟨D, h1, h2, h3, h4, h5⟩, h => by
    subst h1
    have hput : Below n₀ W (W.putObj D (.deferred none)) := ⟨rfl, rfl, rfl, by simp [World.putObj], fun k hk => World.putObj_heap_other (by omega)⟩
    exact ⟨by simp, .inl ⟨D, _, rfl, run_takeDeferred h3, nleaves_marks ds _ (h5.put h4) fun W' hb => h W' (hput.trans hb)⟩⟩
theorem boxI_NA {R H Bi i : Nat} {u : Nat → Value} {ds : List Deferred} {W : World} (h : W.cell? ⟨Bi, 0, none⟩ = some (.int .i64 (i : Int))) : boxI { tmps := NA R H Bi u, defers := ds } W = i := by
  show (RowKit.intOf ((W.cell? ⟨Bi, 0, none⟩).getD undef)).toNat = i
  rw [h]
  simp [RowKit.intOf]
theorem heap_cell {W : World} {B : Nat} {v : Value} {t : TypeId} (h : W.heap[B]? = some (.cells #[v] t)) : W.cell? ⟨B, 0, none⟩ = some v ∧ W.frozen? ⟨B, 0, none⟩ = false := by
  constructor
  · simp only [World.cell?, h]; rfl
  · simp only [World.frozen?, h]; simp
set_option maxRecDepth 100000 in
set_option maxHeartbeats 8000000 in
theorem TreeNested_in (pp : Option Addr) (cp : Nat) (sd : List Sd) (w : World) (hr : SdRow w pp w.heap.size sd) (hok : SdOk sd) (hE : Env w) (h7 : 7 ≤ w.heap.size) :
    CallsIn Fence.wide 9 Tryz.prog 3 #[.slice pp sd.length cp] w fun e w' => e = .returned (.bool true) ∧ Below w.heap.size w w' := by
  have hb0 := bel1 w (.cells #[.bool false] 4)
  have c1 := fixed_any (w.alloc (.cells #[.bool false] 4)) (hE.below hb0 h7) (by rw [World.size_alloc]; omega)
  have Hm : Hid (∀ w1, Below (w.alloc (.cells #[.bool false] 4)).heap.size (w.alloc (.cells #[.bool false] 4)) w1 → Calls Tryz.prog 8 #[.slice pp sd.length cp] w1 fun e w' => ∃ v, e = .returned v ∧ ∃ k f ex, k ≤ 60 ∧ MI w1 w' v k f ex) := Hid.mkT fun w1 hb => made_any pp cp sd w1 ((hr.below (hb0.trans (hb.mono hb0.size))).mono (Nat.le_trans hb0.size hb.size)) hok
  clear hE hr hok
  refine callsIn_of_wp_marks Tryz.func3 rfl trivial ?_ rfl
  simp only [Tryz.ntmps3, List.size_toArray, List.length_cons, List.length_nil, Nat.reduceAdd, Nat.reduceSub, Array.replicate_succ, Array.replicate_zero, List.push_toArray, List.append_toArray, List.nil_append, List.cons_append]
  refine wpIn_wide.2 ?_
  go_upto_region 4 with (first
    | (go_at_call 7; refine c1.mono ?_; rintro _ w1 ⟨rfl, hb1⟩; have c2 := Hm.out w1 hb1; clear c1 Hm)
    | (go_at_call 8; refine c2.mono ?_; rintro _ w2 ⟨v, rfl, k, f, ex, hk60, hI⟩; obtain ⟨pE, cE, rfl, hER⟩ := hI.d.erow; clear c2))
  obtain ⟨i0, hi0, hz0, hsi, hby⟩ := infoI
  have hN : ex.length ≤ 61 := by have := hI.l; omega
  have hN0 : 0 < ex.length := by have := hI.l; omega
  have hmk := fun (w : World) => run_make (P := Tryz.prog) w 26 3 i0 (.int .i64 0) Tryz.underlying26 hi0 hz0 .i64 .i64 (ex.length : Int) (ex.length : Int) (by omega) (Int.le_refl _) (by rw [hby]; omega) (by omega)
  simp only [Int.toNat_natCast, hsi, Nat.mul_one] at hmk
  have hmc : (Value.int .i64 0).cells = #[.int .i64 0] := rfl
  rw [hmc] at hmk
  have hA0 := fun (w : World) => OA.make (w := w) (n := ex.length)
  generalize hMd : madeCells #[Value.int .i64 0] ex.length = Md at hmk hA0
  clear hMd hi0 hz0 hsi hby hmc
  go_upto_block 0 with fail
  obtain ⟨W, hW⟩ : ∃ W, W = (((((w2.alloc (.cells #[.slice pE ex.length cE] 24)).alloc (.cells Md 3)).alloc (.cells #[.slice (some ⟨w2.heap.size + 1, 0, none⟩) ex.length ex.length] 26)).alloc (.cells #[.int .i64 0] 3)).alloc (.cells #[.int .i64 0] 3)) := ⟨_, rfl⟩
  have hS : NR W W w2.heap.size (w2.heap.size + 4) ex.length 0 (.slice pE ex.length cE) (List.replicate ex.length 0) ∧ Below w2.heap.size w2 W ∧ W.heap.size = w2.heap.size + 5 := by
    have a1 := theap_new w2 (.cells #[.slice pE ex.length cE] 24)
    have b1 := bel1 w2 (.cells #[.slice pE ex.length cE] 24)
    have z1 : (w2.alloc (.cells #[.slice pE ex.length cE] 24)).heap.size = w2.heap.size + 1 := World.size_alloc _ _
    have a2 := hA0 (w2.alloc (.cells #[.slice pE ex.length cE] 24))
    have b2 := bel1 (w2.alloc (.cells #[.slice pE ex.length cE] 24)) (.cells Md 3)
    have z2 : ((w2.alloc (.cells #[.slice pE ex.length cE] 24)).alloc (.cells Md 3)).heap.size = w2.heap.size + 2 := by rw [World.size_alloc, z1]
    rw [z1] at a2
    generalize w2.alloc (.cells #[.slice pE ex.length cE] 24) = A1 at *
    generalize A1.alloc (.cells Md 3) = A2 at *
    have a3 := theap_new A2 (.cells #[.slice (some ⟨w2.heap.size + 1, 0, none⟩) ex.length ex.length] 26)
    have b3 := bel1 A2 (.cells #[.slice (some ⟨w2.heap.size + 1, 0, none⟩) ex.length ex.length] 26)
    have z3 : (A2.alloc (.cells #[.slice (some ⟨w2.heap.size + 1, 0, none⟩) ex.length ex.length] 26)).heap.size = w2.heap.size + 3 := by rw [World.size_alloc, z2]
    rw [z2] at a3
    generalize A2.alloc (.cells #[.slice (some ⟨w2.heap.size + 1, 0, none⟩) ex.length ex.length] 26) = A3 at *
    have a4 := theap_new A3 (.cells #[.int .i64 0] 3)
    have b4 := bel1 A3 (.cells #[.int .i64 0] 3)
    have z4 : (A3.alloc (.cells #[.int .i64 0] 3)).heap.size = w2.heap.size + 4 := by rw [World.size_alloc, z3]
    rw [z3] at a4
    generalize A3.alloc (.cells #[.int .i64 0] 3) = A4 at *
    have a5 := theap_new A4 (.cells #[.int .i64 0] 3)
    have b5 := bel1 A4 (.cells #[.int .i64 0] 3)
    have z5 : (A4.alloc (.cells #[.int .i64 0] 3)).heap.size = w2.heap.size + 5 := by rw [World.size_alloc, z4]
    rw [z4] at a5
    rw [← hW] at a5 b5 z5
    have q4 : Below A4.heap.size A4 W := b5
    have q3 : Below A3.heap.size A3 W := b4.trans (q4.mono b4.size)
    have q2 : Below A2.heap.size A2 W := b3.trans (q3.mono b3.size)
    have q1 : Below A1.heap.size A1 W := b2.trans (q2.mono b2.size)
    refine ⟨⟨Below.refl _ _, (q1.block _ (by omega)).trans a1, a2.same (q2.block _ (by omega)) q2.size, (q3.block _ (by omega)).trans a3, ?_, a5, Nat.le_refl _⟩, b1.trans (q1.mono b1.size), z5⟩
    rw [nz_rep]
    exact (q4.block _ (by omega)).trans a4
  obtain ⟨hS, hb2, hsz⟩ := hS
  rw [← hW]
  clear hW hA0 hmk
  have hO0 := Own.start (ex.map Elx.e)
  rw [List.length_map] at hO0
  refine (wpIn_wide (n := 9)).1 ?_
  gi_wp2_with fail
  generalize ha0 : (Act.mk _ _) = a0
  have hstart : a0 = { tmps := NA w.heap.size w2.heap.size (w2.heap.size + 4) (fun k => a0.tmps.getD k undef), defers := [] } := by rw [← ha0]; rfl
  clear ha0
  refine wpIn_loop (fun a wr => ∃ (i Bi : Nat) (u : Nat → Value) (ds : List Deferred) (O : List Nat), i ≤ ex.length ∧ a = { tmps := NA w.heap.size w2.heap.size Bi u, defers := ds } ∧ NR W wr w2.heap.size Bi ex.length i (.slice pE ex.length cE) O ∧ Own (ex.map Elx.e) i [] O ∧ MarksOk W.heap.size ds wr)
    (fun a wr => ex.length - boxI a wr) ⟨0, _, _, [], _, Nat.zero_le _, hstart, hS, hO0, trivial⟩ ?_
  clear hstart hS hO0
  rintro a wr ⟨i, Bi, u, ds, O, hi, rfl, hR, hOw, hMk⟩
  have e1 := (heap_cell hR.e).1
  have e2 := heap_cell hR.b
  by_cases hlt : i < ex.length
  · have hlt' : (i : Int) < ex.length := by omega
    have hbl := bel1 wr (.cells #[.int .i64 (i : Int)] 3)
    have hRl := hR.below hbl
    have e3 := (heap_cell hRl.e).1
    have e4 := (heap_cell hRl.b).1
    have hEl : ERow (wr.alloc (.cells #[.int .i64 (i : Int)] 3)) pE (wr.alloc (.cells #[.int .i64 (i : Int)] 3)).heap.size (ex.map Elx.e) := (hER.below (hb2.trans hRl.bel)).mono (Nat.le_of_lt (Array.getElem?_eq_some_iff.1 hRl.e).1)
    have hd6 := hI.d.d6
    have cK := Kids_any pE cE (ex.map Elx.e) (i : Int) _ hEl (by rw [List.length_map]; omega) (fun e he => by obtain ⟨x, hx, rfl⟩ := List.mem_map.1 he; have := hd6 x hx; omega) (by omega)
    rw [List.length_map] at cK
    have hnil := fun Bs w => neq_seq_nil (.func 40) #[] #[.pointer (some ⟨Bs, 0, none⟩)] w
    gi_wp2_with (refine ⟨trivial, ?_⟩; refine (callsIn_wide.2 cK).mono ?_; rintro e w4 ⟨Bs, v4, rfl, hBs, hb4, hR4, hB5⟩)
    have hRn := hRl.below hB5
    have hWa : (wr.alloc (.cells #[.int .i64 (i : Int)] 3)).heap.size = wr.heap.size + 1 := World.size_alloc _ _
    have hs5 := hB5.size
    have hBi : Bi < wr.heap.size := (Array.getElem?_eq_some_iff.1 hR.b).1
    have hH3 : w2.heap.size + 3 < wr.heap.size := (Array.getElem?_eq_some_iff.1 hR.m).1
    have hBl : w4.heap[wr.heap.size]? = some (.cells #[.int .i64 (i : Int)] 3) := (hB5.block _ (by omega)).trans (theap_new wr _)
    have hMn : MarksOk W.heap.size ds w4 := (hMk.below hbl).below hB5
    have hmt : ∀ D, w4.heap.size ≤ D → ∀ d' ∈ ds, d'.target ≠ .collected D := fun D hD d' hd' e => by
      obtain ⟨D', h1, h2⟩ := hMk.lt d' hd'
      rw [h1] at e
      injection e with e
      omega
    have hge := own_ge hR4
    obtain ⟨pL, cL, rfl, hcL⟩ := hR4.shape
    have hKl := kidsN_length (ex.map Elx.e) (i : Int)
    rw [List.length_map] at hKl
    rw [kidsN_A] at *
    have hBs4 : Bs < w4.heap.size := (Array.getElem?_eq_some_iff.1 hb4).1
    generalize ha1 : (Act.mk _ _) = a1
    have hst : a1 = { tmps := NC w.heap.size w2.heap.size Bi wr.heap.size (.func (.func 40) #[] #[.pointer (some ⟨Bs, 0, none⟩)]) (fun k => a1.tmps.getD k undef), defers := ds } := by rw [← ha1]; rfl
    obtain ⟨u1, hu1⟩ : ∃ u1, a1 = { tmps := NC w.heap.size w2.heap.size Bi wr.heap.size (.func (.func 40) #[] #[.pointer (some ⟨Bs, 0, none⟩)]) u1, defers := ds } := ⟨_, hst⟩
    clear hst ha1
    subst hu1
    refine rangeZ (zs := kidsA (ex.map Elx.e) i) (n₁ := wr.heap.size + 1) (n₂ := w4.heap.size) rfl rfl (by omega) (Nat.le_refl _) hBs4 pL cL (heap_cell hb4).1 (fun j x hx => ?_)
      (fun pre Wx => ∃ O', NR W Wx w2.heap.size Bi ex.length i (.slice pE ex.length cE) O' ∧ Own (ex.map Elx.e) i pre O' ∧ Wx.heap[wr.heap.size]? = some (.cells #[.int .i64 ((pre.getLastD i : Nat) : Int)] 3) ∧ Kq (wr.heap.size + 1) w4.heap.size w4 Wx ∧ MarksOk W.heap.size ds Wx)
      ?ia ?ip ⟨O, hRn, hOw, hBl, Kq.refl _ _ _, hMn⟩
      (fun x => { tmps := NB w.heap.size w2.heap.size Bi wr.heap.size (.func (.func 40) #[] #[.pointer (some ⟨Bs, 0, none⟩)]) (x : Int) (fun k => if k = 31 then .int .i64 (x : Int) else u1 k), defers := [] }) ?assign ?body ?done
    · obtain ⟨g, e, hg, hc⟩ := hcL j x hx
      exact ⟨g, e, ⟨by have := hge g (by rw [e]; rfl); omega, hg⟩, hc⟩
    case ia =>
      rintro pre A o ⟨O', h1, h2, h3, h4, h5⟩ hs
      have hb := bel1 A o
      exact ⟨O', h1.below hb, h2, (hb.block _ (Array.getElem?_eq_some_iff.1 h3).1).trans h3, h4.trans ⟨hb.size, fun k _ hk => hb.block k (by omega)⟩, h5.below hb⟩
    case ip =>
      rintro pre A l o o' ⟨O', h1, h2, h3, h4, h5⟩ hl ho hc
      have hk : ∀ k, k < w4.heap.size → (A.putObj l o').heap[k]? = A.heap[k]? := fun k hk => World.putObj_heap_other (by omega)
      exact ⟨O', h1.far hk (by simp [World.putObj]) rfl rfl rfl (by omega) (by omega), h2, (hk _ (by omega)).trans h3, h4.trans ⟨by simp [World.putObj], fun k _ hk' => hk k hk'⟩, h5.put (hmt l hl)⟩
    case assign =>
      intro m l x A K hK
      gi_wp2
      exact hK
    case body =>
      rintro m l pre x Wx hle ⟨rl, hrl⟩ hpx ⟨O', h1, h2, h3, h4, h5⟩
      have hd6 := hI.d.d6
      have hsW := (Array.getElem?_eq_some_iff.1 h1.e).1
      have hEx : ERow Wx pE Wx.heap.size (ex.map Elx.e) := (hER.below (hb2.trans h1.bel)).mono (Nat.le_of_lt hsW)
      have hB4 : wr.heap.size < w4.heap.size := by omega
      clear cK hnil hEl e1 e2 e3 e4 hRl hbl hR hMk hOw hRn hBl hMn hcL hge hB5 hER hI hb2 hb1 hb0 hKl hb4 hmt hWa hBs
      generalize wr.heap.size = Bl at *
      generalize w4.heap.size = N4 at *
      obtain ⟨post, hpost⟩ := hpx
      have hkn : kidsA (ex.map Elx.e) i = pre ++ x :: post := by rw [← hpost]; simp
      have hfree := h2.free hkn
      obtain ⟨h2n, hz2⟩ := h2.step hkn
      have hlast := last_lt hkn
      have hmem : x ∈ kidsA (ex.map Elx.e) i := by rw [hkn]; simp
      obtain ⟨hix, hxn, -⟩ := kidsA_lt hmem
      rw [List.length_map] at hxn
      obtain ⟨a, ha⟩ : ∃ a, (ex.map Elx.e)[i]? = some a := ⟨_, List.getElem?_eq_getElem (by rw [List.length_map]; exact hlt)⟩
      obtain ⟨⟨ax, -, hx', hdx⟩, hbt⟩ := (kidsA_iff ha x).1 hmem
      obtain ⟨gE, oE, pa1, ca1, hpE, hgE, ci, -⟩ := hEx.c i a ha
      subst hpE
      have HE : Hid (∀ (q : Nat) (b : El), (ex.map Elx.e)[q]? = some b → Wx.cell? ⟨gE, oE + q * 5, none⟩ = some (.int .i64 b.d)) := Hid.mkT fun q b hb => by
        obtain ⟨gE2, oE2, _, _, hpE2, -, cx, -⟩ := hEx.c q b hb
        cases hpE2
        exact cx
      have cx := HE.out x ax hx'
      rw [hdx] at cx
      have hda : 1 ≤ a.d ∧ a.d ≤ 16 := by
        obtain ⟨z, hz, rfl⟩ := List.mem_map.1 (List.mem_of_getElem? ha)
        exact hd6 z hz
      have Hbt := Hid.mkT hbt
      generalize a.d = da at *
      have hd1 := hda.1
      have hd16 := hda.2
      have hOl : O'.length = ex.length := by have := h2.l; rwa [List.length_map] at this
      have hH4i := h1.hi
      have k1 := (heap_cell h1.e).1
      have k2 := (heap_cell h1.b).1
      have k3 := heap_cell h3
      have k4 := (heap_cell h1.o).1
      have k5 := h1.g.c x 0 hfree
      have k5f := h1.g.fz x
      have k6 := heap_cell h1.m
      refine wpIn_mono (?_ : Code.wpIn _ _ _ _ (fun e _ W' => e = Exit.normal ∧ ∃ A, DrW Wx A ∧ W' = (((A.setCell ⟨w2.heap.size + 1, x, none⟩ (.int .i64 ((i : Int) + 1))).setCell ⟨Bl, 0, none⟩ (.int .i64 (x : Int))).setCell ⟨w2.heap.size + 3, 0, none⟩ (.int .i64 ((nz O' : Int) + 1)))) _ _) ?fin
      case fin =>
        rintro e a W' ⟨rfl, A, hA, rfl⟩
        have hH4 := h1.hi
        have s1 : ∀ (B : World) (p : Addr) (v : Value), (B.setCell p v).heap.size = B.heap.size := fun B p v => by simp [World.setCell]
        have hk : ∀ k, k ≠ w2.heap.size + 1 → k ≠ Bl → k ≠ w2.heap.size + 3 → (((A.setCell ⟨w2.heap.size + 1, x, none⟩ (.int .i64 ((i : Int) + 1))).setCell ⟨Bl, 0, none⟩ (.int .i64 (x : Int))).setCell ⟨w2.heap.size + 3, 0, none⟩ (.int .i64 ((nz O' : Int) + 1))).heap[k]? = Wx.heap[k]? := fun k n1 n2 n3 =>
          (Below.heap_setCell _ _ _ _ n3).trans ((Below.heap_setCell _ _ _ _ n2).trans ((Below.heap_setCell _ _ _ _ n1).trans (by rw [hA.h])))
        have hsz' : (((A.setCell ⟨w2.heap.size + 1, x, none⟩ (.int .i64 ((i : Int) + 1))).setCell ⟨Bl, 0, none⟩ (.int .i64 (x : Int))).setCell ⟨w2.heap.size + 3, 0, none⟩ (.int .i64 ((nz O' : Int) + 1))).heap.size = Wx.heap.size := by rw [s1, s1, s1, hA.h]
        have kq : Kq (Bl + 1) N4 Wx (((A.setCell ⟨w2.heap.size + 1, x, none⟩ (.int .i64 ((i : Int) + 1))).setCell ⟨Bl, 0, none⟩ (.int .i64 (x : Int))).setCell ⟨w2.heap.size + 3, 0, none⟩ (.int .i64 ((nz O' : Int) + 1))) := ⟨by rw [hsz']; exact Nat.le_refl _, fun k a1 a2 => hk k (by omega) (by omega) (by omega)⟩
        have gA : OA A (w2.heap.size + 1) O' := h1.g.same (by rw [hA.h]) (by rw [hA.h]; exact Nat.le_refl _)
        have g1 := gA.set x (i + 1)
        have hc1 : (A.setCell ⟨w2.heap.size + 1, x, none⟩ (.int .i64 (((i + 1 : Nat)) : Int))) = A.setCell ⟨w2.heap.size + 1, x, none⟩ (.int .i64 ((i : Int) + 1)) := rfl
        rw [hc1] at g1
        have mA : A.heap[w2.heap.size + 3]? = some (.cells #[.int .i64 (nz O' : Int)] 3) := by rw [hA.h]; exact h1.m
        have bA : A.heap[Bl]? = some (.cells #[.int .i64 ((pre.getLastD i : Nat) : Int)] 3) := by rw [hA.h]; exact h3
        have mB : ((A.setCell ⟨w2.heap.size + 1, x, none⟩ (.int .i64 ((i : Int) + 1))).setCell ⟨Bl, 0, none⟩ (.int .i64 (x : Int))).heap[w2.heap.size + 3]? = some (.cells #[.int .i64 (nz O' : Int)] 3) := (Below.heap_setCell _ _ _ _ (show w2.heap.size + 3 ≠ Bl by omega)).trans ((Below.heap_setCell _ _ _ _ (show w2.heap.size + 3 ≠ w2.heap.size + 1 by omega)).trans mA)
        have bB : (A.setCell ⟨w2.heap.size + 1, x, none⟩ (.int .i64 ((i : Int) + 1))).heap[Bl]? = some (.cells #[.int .i64 ((pre.getLastD i : Nat) : Int)] 3) := (Below.heap_setCell _ _ _ _ (show Bl ≠ w2.heap.size + 1 by omega)).trans bA
        obtain ⟨oc, hoc⟩ : ∃ o, A.heap[w2.heap.size + 1]? = some o := ⟨_, Array.getElem?_eq_getElem gA.lt⟩
        have hgc : ∃ cs t fr, A.heap[w2.heap.size + 1]? = some (.cells cs t fr) := by
          have hcell := gA.c x 0 hfree
          unfold World.cell? at hcell
          rw [hoc] at hcell ⊢
          cases oc with
          | cells cs t fr => exact ⟨cs, t, fr, rfl⟩
          | _ => simp at hcell
        obtain ⟨cs0, t0, fr0, hgc⟩ := hgc
        have hM1 := (h5.below (hA.below _)).cells (o := x) (v := .int .i64 ((i : Int) + 1)) hgc
        have hM2 := hM1.cells (o := 0) (v := .int .i64 (x : Int)) bB
        have hM3 := hM2.cells (o := 0) (v := .int .i64 ((nz O' : Int) + 1)) mB
        refine ⟨⟨by rw [hsz']; exact Nat.le_refl _, fun k o hk' ho _ => (hk k (by omega) (by omega) (by omega)).trans ho⟩, kq, O'.set x (i + 1), ⟨⟨hA.os.trans h1.bel.os, hA.tape.trans h1.bel.tape, hA.output.trans h1.bel.output, by rw [hsz']; exact h1.bel.size, fun k hk' => (hk k (by omega) (by omega) (by omega)).trans (h1.bel.block k hk')⟩, (hk _ (by omega) (by omega) (by omega)).trans h1.e, ?_, (hk _ (by omega) (by omega) (by omega)).trans h1.o, ?_, (hk _ (by omega) (by omega) (by omega)).trans h1.b, hH4⟩, h2n, ?_, h4.trans kq, hM3⟩
        · exact (g1.same (Below.heap_setCell _ _ _ _ (show w2.heap.size + 1 ≠ Bl by omega)) (Nat.le_of_eq (by simp only [s1]))).same (Below.heap_setCell _ _ _ _ (show w2.heap.size + 1 ≠ w2.heap.size + 3 by omega)) (Nat.le_of_eq (by simp only [s1]))
        · rw [hset_at mB, hz2]
          rfl
        · refine (Below.heap_setCell _ _ _ _ (show Bl ≠ w2.heap.size + 3 by omega)).trans ?_
          rw [hset_at bB]
          simp
      generalize hlv : pre.getLastD i = lv at h3 hlast k3
      have b1 : decide (x ≤ lv) = false := decide_eq_false (by omega)
      have b2 : decide (ex.length ≤ x) = false := decide_eq_false (by omega)
      have v1 : ¬ (x : Int) ≤ lv := by omega
      have v1' : (lv : Int) < x := by omega
      have v2 : ¬ (ex.length : Int) ≤ x := by omega
      have v2' : (x : Int) < ex.length := by omega
      have v3 : IntKind.i64.wrap (da + 1) = da + 1 := by rw [IntKind.wrap_i64]; omega
      have hlt2 : (i : Int) < ex.length := by omega
      clear hEx hkn hpost hmem h2 hfree hx' ha hbt h1 h5 hdx hda hlv h2n hz2 hd6 h4 h3 hrl
      generalize (fun k : Nat => if k = 31 then Value.int IntKind.i64 (x : Int) else u1 k) = u2
      dsimp only [NB]
      gi_wp2_with fail
      refine wpIn_region_quiet_roundZ (by kernel_rfl) (by kernel_rfl) (by kernel_rfl) ?_
      repeat (gi_big_quiet_step (fail))
      refine wpQuietIn_nil ?_
      intro _ hw'
      obtain ⟨nq, hw''⟩ := hw'
      subst hw''
      have hD0 : DrW Wx (Wx.drewN nq) := (DrW.refl _).drewN nq
      gi_wp2_with fail
      gi_loopw [10] (fun j A => ∃ q : Nat, i + 1 ≤ q ∧ q ≤ x ∧ j = .int .i64 (q : Int) ∧ DrW Wx A) (fun j _ => x - (RowKit.intOf j).toNat)
      case atStart => exact ⟨i + 1, by omega, by omega, by go_num, hD0⟩
      case round =>
        obtain ⟨q, hq1, hq2, rfl, hD⟩ := hrel
        have c1 := (hD.cell ⟨w2.heap.size, 0, none⟩).trans k1
        have c2 := (hD.cell ⟨Bi, 0, none⟩).trans k2
        by_cases hqx : q < x
        · obtain ⟨b, hb⟩ : ∃ b, (ex.map Elx.e)[q]? = some b := ⟨_, List.getElem?_eq_getElem (by rw [List.length_map]; omega)⟩
          have hbd := Hbt.out q b (by omega) (by omega) hb
          have c3 := (hD.cell ⟨gE, oE + q * 5, none⟩).trans (HE.out q b hb)
          have c4 := (hD.cell ⟨gE, oE + i * 5, none⟩).trans ci
          have y1 : (q : Int) < x := by omega
          have y2 : (q : Int) < ex.length := by omega
          have y3 : decide (b.d ≤ da) = false := decide_eq_false (by omega)
          have y4 : ¬ b.d ≤ da := by omega
          generalize b.d = db at *
          clear hb HE Hbt
          gi_wp2_with fail
          refine wpIn_region_quiet_roundZ (by kernel_rfl) (by kernel_rfl) (by kernel_rfl) ?_
          repeat (gi_big_quiet_step (fail))
          refine wpQuietIn_nil ?_
          intro _ hw'
          obtain ⟨nq2, hw''⟩ := hw'
          subst hw''
          gi_wp2_with fail
          go_roundw
          case rel => exact ⟨q + 1, by omega, by omega, by go_num, hD.drewN nq2⟩
          case measure => simp [RowKit.intOf]; omega
        · obtain rfl : q = x := by omega
          have c3 := (hD.cell ⟨w2.heap.size + 2, 0, none⟩).trans k4
          have c4 := (hD.cell ⟨w2.heap.size + 1, q, none⟩).trans k5
          have c4f := (hD.fz ⟨w2.heap.size + 1, q, none⟩).trans k5f
          have c5 := (hD.cell ⟨Bl, 0, none⟩).trans k3.1
          have c5f := (hD.fz ⟨Bl, 0, none⟩).trans k3.2
          have c6 := (hD.cell ⟨w2.heap.size + 3, 0, none⟩).trans k6.1
          have c6f := (hD.fz ⟨w2.heap.size + 3, 0, none⟩).trans k6.2
          have y0 : ¬ (q : Int) < q := by omega
          have n1 : ¬ (w2.heap.size + 1 = Bl) := by omega
          have n2 : ¬ (Bl = w2.heap.size + 1) := by omega
          have n3 : ¬ (w2.heap.size + 3 = Bl) := by omega
          have n4 : ¬ (Bl = w2.heap.size + 3) := by omega
          have n5 : ¬ (w2.heap.size + 1 = Bi) := by omega
          have n6 : ¬ (Bi = w2.heap.size + 1) := by omega
          have yw : IntKind.i64.wrap ((nz O' : Int) + 1) = (nz O' : Int) + 1 := by
            have := nz_le O'
            rw [IntKind.wrap_i64]
            omega
          have HD := Hid.mkT hD
          clear HE Hbt
          gi_wp2_with fail
          exact ⟨_, HD.out, rfl⟩
    case done =>
      rintro D Wd hD ⟨O', h1, h2, h3, h4, h5⟩ hDm
      have hMd : MarksOk W.heap.size ({ target := .collected D, args := #[] } :: ds) Wd := ⟨D, rfl, by have := hRn.bel.size; omega, hDm, hmt D hD, h5⟩
      have q1 := (heap_cell h1.b).1
      have hba := bel1 Wd (.cells #[.int .i64 ((i : Int) + 1)] 3)
      have hMd' := hMd.below hba
      have h6 := h1.below hba
      have h7' : NR W (Wd.alloc (.cells #[.int .i64 ((i : Int) + 1)] 3)) w2.heap.size Wd.heap.size ex.length (i + 1) (.slice pE ex.length cE) O' := ⟨h6.bel, h6.e, h6.g, h6.o, h6.m, theap_new Wd _, by have := (Array.getElem?_eq_some_iff.1 h1.b).1; have := h1.hi; omega⟩
      have hme : ex.length - (i + 1) < ex.length - i := by omega
      have hbI := boxI_NA (R := w.heap.size) (H := w2.heap.size) (u := u) (ds := ds) e2.1
      have hwi : IntKind.i64.wrap ((i : Int) + 1) = (i : Int) + 1 := by rw [IntKind.wrap_i64]; omega
      gi_wp2_with fail
      generalize ha1 : (Act.mk _ _) = a1
      have hst : a1 = { tmps := NA w.heap.size w2.heap.size Wd.heap.size (fun k => a1.tmps.getD k undef), defers := { target := .collected D, args := #[] } :: ds } := by rw [← ha1]; rfl
      obtain ⟨u3, hu3⟩ : ∃ u3, a1 = { tmps := NA w.heap.size w2.heap.size Wd.heap.size u3, defers := { target := .collected D, args := #[] } :: ds } := ⟨_, hst⟩
      clear hst ha1
      subst hu3
      refine ⟨⟨i + 1, Wd.heap.size, _, _, O', hlt, rfl, h7', h2.next, hMd'⟩, ?_⟩
      show ex.length - boxI _ _ < ex.length - boxI _ _
      rw [boxI_NA (heap_cell h7'.b).1, hbI]
      exact hme
  · obtain rfl : i = ex.length := by omega
    have hnz := Own.done hI.d.dp (by rw [List.length_map]; exact hN0) (by rw [List.length_map]; exact hOw)
    rw [List.length_map] at hnz
    have hnz' : (nz O : Int) = (ex.length : Int) - 1 := by omega
    have hnb : ((nz O : Int) == (ex.length : Int) - 1) = true := beq_iff_eq.2 hnz'
    have hwn : IntKind.i64.wrap ((ex.length : Int) - 1) = (ex.length : Int) - 1 := by rw [IntKind.wrap_i64]; omega
    have q1 := (heap_cell hR.m).1
    have hRH : w.heap.size < w2.heap.size := by
      have h1 := hb1.size
      have h2 := hI.bel.size
      rw [World.size_alloc] at h1
      omega
    have hRb : wr.heap[w.heap.size]? = some (.cells #[.bool false] 4) := ((hb2.trans hR.bel).block _ hRH).trans ((hI.bel.block _ (by have h1 := hb1.size; rw [World.size_alloc] at h1; omega)).trans ((hb1.block _ (by rw [World.size_alloc]; omega)).trans (theap_new w _)))
    have hr1 := heap_cell hRb
    have hBw : Below w.heap.size w wr := hb0.trans ((hb1.mono hb0.size).trans ((hI.bel.mono (by have h1 := hb1.size; rw [World.size_alloc] at h1; omega)).trans ((hb2.trans hR.bel).mono (by omega))))
    have hWs := hsz
    rw [hnz'] at q1
    gi_wp2_with fail
    go_wp2_with fail
    have hBs' : Below w.heap.size w (wr.setCell ⟨w.heap.size, 0, none⟩ (.bool true)) := hBw.setCell (Nat.le_refl _) _
    refine nleaves_marks (n₀ := W.heap.size) ds _ ?_ fun W' hb => ?_
    · exact hMk.set (by omega)
    · refine ⟨.bool true, ?_, rfl, hBs'.trans (hb.mono (by omega))⟩
      have hcr : W'.cell? ⟨w.heap.size, 0, none⟩ = some (.bool true) := (hb.cell (p := ⟨w.heap.size, 0, none⟩) (by show w.heap.size < _; omega)).trans (World.cell?_setCell_same' _ _ _ (by rw [hr1.1]; rfl))
      simp [results, Tryz.results3, go_sem, hcr]
theorem TreeNested_any (pp : Option Addr) (cp : Nat) (sd : List Sd) (w : World) (hr : SdRow w pp w.heap.size sd) (hok : SdOk sd) (hE : Env w) (h7 : 7 ≤ w.heap.size) :
    Calls Tryz.prog 3 #[.slice pp sd.length cp] w fun e w' => e = .returned (.bool true) ∧ Below w.heap.size w w' :=
  (callsIn_wide (n := 9)).1 (TreeNested_in pp cp sd w hr hok hE h7)
end Go.Proofs.YtchfphakhmifmabGreatDoor
