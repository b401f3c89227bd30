/- Rooms and numbers in memory; a row in its block. -/
import Derived.Test.YtjdinlgbfpkodaaProg
import Derived.WalkKit
import Derived.WalkSpells
import Derived.WalkLawsBesides
import Derived.ProofKit
import Derived.OpenShut
import Derived.Deep.RegionWith
import Derived.Deep.QuietTactic
import Derived.BigQuiet
import Derived.Deep.AppendLies
import Derived.Deep.AppendSrc
import Derived.Laws.AppendOwn
namespace Go.Proofs.Ytjdinlgbfpkodaa
open Go.ChangeShapes Go.WideShapes Go.ChangeAt Go.RowKit

structure Hid (p : Prop) : Prop where
  out : p
structure Rm where
  sz : Int
  of : Int
def i64ok (x : Int) : Prop := -9223372036854775808 ≤ x ∧ x ≤ 9223372036854775807
def Rm.ok (x : Rm) : Prop := i64ok x.sz ∧ i64ok x.of
abbrev iV (x : Int) : Value := .int .i64 x
abbrev rmV (x : Rm) : Value := .agg #[.int .i64 x.sz, .int .i64 x.of]
def rmC (r : Rm) : List Value := [.int .i64 r.sz, .int .i64 r.of]
def rmCells (l : List Rm) : List Value := l.flatMap rmC
theorem rmCells_length (l : List Rm) : (rmCells l).length = l.length * 2 := by
  induction l with
  | nil => rfl
  | cons a r ih =>
    unfold rmCells at ih ⊢
    rw [List.flatMap_cons, List.length_append, ih, List.length_cons]
    show 2 + _ = _
    omega
theorem rmCells_append (a b : List Rm) : rmCells (a ++ b) = rmCells a ++ rmCells b := by unfold rmCells; rw [List.flatMap_append]
theorem rmCells_one (l : List Rm) : ∀ u ∈ rmCells l, u.oneCell' = true := by
  intro u hu
  obtain ⟨a, _, h⟩ := List.mem_flatMap.1 hu
  simp only [rmC, List.mem_cons, List.not_mem_nil, or_false] at h
  rcases h with rfl | rfl <;> rfl
theorem rmCells_get : ∀ (l : List Rm) (i : Nat) (t : Rm), l[i]? = some t → ∀ j, j < 2 → (rmCells l)[i * 2 + j]? = (rmC t)[j]?
  | [], _, _, h, _, _ => by cases h
  | a :: r, 0, t, h, j, hj => by
    cases h
    unfold rmCells
    rw [List.flatMap_cons, List.getElem?_append_left (by simp [rmC]; omega), Nat.zero_mul, Nat.zero_add]
  | a :: r, i + 1, t, h, j, hj => by
    have ih := rmCells_get r i t h j hj
    unfold rmCells at ih ⊢
    have hl : (rmC a).length = 2 := rfl
    rw [List.flatMap_cons, List.getElem?_append_right (by omega), hl, ← ih]
    congr 1
    omega
theorem addrL (g o k : Nat) : (⟨g, o, none⟩ : Addr).add k = ⟨g, o + k, none⟩ := by unfold Addr.add; split <;> simp_all
/-- Rooms in memory: their cells lie ahead of block H. -/
structure RmRow (w : World) (pp : Option Addr) (H : Nat) (l : List Rm) : Prop where
  c : ∀ (i : Nat) (t : Rm), l[i]? = some t → ∃ g o, pp = some ⟨g, o, none⟩ ∧ g < H ∧ w.cell? ⟨g, o + i * 2, none⟩ = some (.int .i64 t.sz) ∧ w.cell? ⟨g, o + i * 2 + 1, none⟩ = some (.int .i64 t.of)
/-- Numbers in memory. -/
structure ZRow (w : World) (pp : Option Addr) (H : Nat) (l : List Int) : Prop where
  c : ∀ (i : Nat) (t : Int), l[i]? = some t → ∃ g o, pp = some ⟨g, o, none⟩ ∧ g < H ∧ w.cell? ⟨g, o + i, none⟩ = some (.int .i64 t)
theorem RmRow.same {w w' : World} {pp : Option Addr} {H : Nat} {l : List Rm} (h : RmRow w pp H l) (hb : ∀ k, k < H → w'.heap[k]? = w.heap[k]?) : RmRow w' pp H l :=
  ⟨fun i t ht => by
    obtain ⟨g, o, e, hg, h0, h1⟩ := h.c i t ht
    refine ⟨g, o, e, hg, ?_, ?_⟩
    · rw [← h0]; simp only [World.cell?, hb g hg]
    · rw [← h1]; simp only [World.cell?, hb g hg]⟩
theorem ZRow.same {w w' : World} {pp : Option Addr} {H : Nat} {l : List Int} (h : ZRow w pp H l) (hb : ∀ k, k < H → w'.heap[k]? = w.heap[k]?) : ZRow w' pp H l :=
  ⟨fun i t ht => by
    obtain ⟨g, o, e, hg, h0⟩ := h.c i t ht
    refine ⟨g, o, e, hg, ?_⟩
    rw [← h0]; simp only [World.cell?, hb g hg]⟩
theorem RmRow.below {w w' : World} {pp : Option Addr} {H : Nat} {l : List Rm} (h : RmRow w pp H l) (hb : Below H w w') : RmRow w' pp H l := h.same fun k hk => hb.block k hk
theorem ZRow.below {w w' : World} {pp : Option Addr} {H : Nat} {l : List Int} (h : ZRow w pp H l) (hb : Below H w w') : ZRow w' pp H l := h.same fun k hk => hb.block k hk
theorem RmRow.mono {w : World} {pp : Option Addr} {H H' : Nat} {l : List Rm} (h : RmRow w pp H l) (hH : H ≤ H') : RmRow w pp H' l :=
  ⟨fun i t ht => by obtain ⟨g, o, e, hg, r⟩ := h.c i t ht; exact ⟨g, o, e, by omega, r⟩⟩
theorem ZRow.mono {w : World} {pp : Option Addr} {H H' : Nat} {l : List Int} (h : ZRow w pp H l) (hH : H ≤ H') : ZRow w pp H' l :=
  ⟨fun i t ht => by obtain ⟨g, o, e, hg, r⟩ := h.c i t ht; exact ⟨g, o, e, by omega, r⟩⟩
theorem RmRow.nil (w : World) (pp : Option Addr) (H : Nat) : RmRow w pp H [] := ⟨fun i t ht => by cases ht⟩
theorem ZRow.nil (w : World) (pp : Option Addr) (H : Nat) : ZRow w pp H [] := ⟨fun i t ht => by cases ht⟩
theorem RmRow.news {w : World} {ad : Addr} {H : Nat} {l : List Rm} (h : RmRow w (some ad) H l) : ∀ j u, (rmCells l)[j]? = some u → w.cell? (ad.add j) = some u := by
  intro j u hu
  have hj : j < l.length * 2 := by rw [← rmCells_length]; exact (List.getElem?_eq_some_iff.1 hu).1
  have hi : j / 2 < l.length := by omega
  obtain ⟨g, o, e, _, h0, h1⟩ := h.c (j / 2) l[j / 2] (List.getElem?_eq_getElem hi)
  cases e
  have hg := rmCells_get l (j / 2) l[j / 2] (List.getElem?_eq_getElem hi) (j % 2) (by omega)
  rw [show j / 2 * 2 + j % 2 = j by omega, hu] at hg
  rw [addrL]
  have h4 : j % 2 = 0 ∨ j % 2 = 1 := by omega
  rcases h4 with h4 | h4
  · rw [h4] at hg
    cases Option.some.inj hg
    rw [show o + j = o + j / 2 * 2 by omega]; exact h0
  · rw [h4] at hg
    cases Option.some.inj hg
    rw [show o + j = o + j / 2 * 2 + 1 by omega]; exact h1
theorem ZRow.news {w : World} {ad : Addr} {H : Nat} {l : List Int} (h : ZRow w (some ad) H l) : ∀ j u, (l.map iV)[j]? = some u → w.cell? (ad.add j) = some u := by
  intro j u hu
  rw [List.getElem?_map] at hu
  obtain ⟨t, ht, rfl⟩ := Option.map_eq_some_iff.1 hu
  obtain ⟨g, o, e, _, h0⟩ := h.c j t ht
  cases e
  rw [addrL]
  exact h0
/-- Lists of one's own. -/
abbrev ROwn (W : World) (base : Nat) (v : Value) (l : List Rm) : Prop := W.ownsRow base 35 2 v l.length (rmCells l)
abbrev ZOwn (W : World) (base : Nat) (v : Value) (l : List Int) : Prop := W.ownsRow base 3 1 v l.length (l.map iV)
theorem own_mono {W : World} {base base' : Nat} {e : TypeId} {s : Nat} {v : Value} {n : Nat} {xs : List Value} (h : W.ownsRow base e s v n xs) (hB : base' ≤ base) : W.ownsRow base' e s v n xs := by
  refine ⟨h.1, ?_⟩
  rcases h.2 with h0 | ⟨g, cap, cur, e, hb, r⟩
  · exact .inl h0
  · exact .inr ⟨g, cap, cur, e, by omega, r⟩
theorem own_same {W W' : World} {base : Nat} {e : TypeId} {s : Nat} {v : Value} {n : Nat} {xs : List Value} (h : W.ownsRow base e s v n xs) (hb : ∀ k, v.ownBlock = some k → W'.heap[k]? = W.heap[k]?) : W'.ownsRow base e s v n xs := by
  refine ⟨h.1, ?_⟩
  rcases h.2 with h0 | ⟨g, cap, cur, rfl, hb', hg, r⟩
  · exact .inl h0
  · exact .inr ⟨g, cap, cur, rfl, hb', (hb g rfl).trans hg, r⟩
theorem own_lt {W : World} {base : Nat} {e : TypeId} {s : Nat} {v : Value} {n : Nat} {xs : List Value} (h : W.ownsRow base e s v n xs) {k : Nat} (hk : v.ownBlock = some k) : base ≤ k ∧ k < W.heap.size := by
  rcases h.2 with ⟨rfl, _⟩ | ⟨g, cap, cur, rfl, hb', hg, r⟩
  · cases hk
  · cases hk; exact ⟨hb', (Array.getElem?_eq_some_iff.1 hg).1⟩
theorem own_below {W W' : World} {base : Nat} {e : TypeId} {s : Nat} {v : Value} {n : Nat} {xs : List Value} (h : W.ownsRow base e s v n xs) (hb : Below W.heap.size W W') : W'.ownsRow base e s v n xs :=
  own_same h fun k hk => hb.block k (own_lt h hk).2
theorem ROwn.shape {W : World} {base : Nat} {v : Value} {l : List Rm} (h : ROwn W base v l) : ∃ pp cp, v = .slice pp l.length cp ∧ RmRow W pp W.heap.size l := by
  rcases h.2 with ⟨rfl, h0⟩ | ⟨g, cap, cur, rfl, hb, hg, hn, hm, hs, hx⟩
  · have : l = [] := List.eq_nil_of_length_eq_zero h0
    subst this
    exact ⟨none, 0, rfl, RmRow.nil _ _ _⟩
  · refine ⟨_, _, rfl, ⟨fun i t hi => ⟨g, 0, rfl, (Array.getElem?_eq_some_iff.1 hg).1, ?_, ?_⟩⟩⟩
    · have := World.ownsRow.cells h (g := g) rfl (i * 2 + 0) _ (rmCells_get l i t hi 0 (by decide))
      rw [addrL] at this
      exact this
    · have := World.ownsRow.cells h (g := g) rfl (i * 2 + 1) _ (rmCells_get l i t hi 1 (by decide))
      rw [addrL] at this
      rw [Nat.add_assoc]
      exact this
theorem ZOwn.shape {W : World} {base : Nat} {v : Value} {l : List Int} (h : ZOwn W base v l) : ∃ pp cp, v = .slice pp l.length cp ∧ ZRow W pp W.heap.size l := by
  rcases h.2 with ⟨rfl, h0⟩ | ⟨g, cap, cur, rfl, hb, hg, hn, hm, hs, hx⟩
  · have : l = [] := List.eq_nil_of_length_eq_zero h0
    subst this
    exact ⟨none, 0, rfl, ZRow.nil _ _ _⟩
  · refine ⟨_, _, rfl, ⟨fun i t hi => ⟨g, 0, rfl, (Array.getElem?_eq_some_iff.1 hg).1, ?_⟩⟩⟩
    have hi2 : (l.map iV)[i]? = some (iV t) := by rw [List.getElem?_map, hi]; rfl
    have := World.ownsRow.cells h (g := g) rfl i _ hi2
    rw [addrL] at this
    exact this
/-- But for block R, all blocks ahead of H are as they were. -/
structure Kp (R H : Nat) (w w' : World) : Prop where
  os : w'.os = w.os
  tape : w'.tape = w.tape
  output : w'.output = w.output
  size : w.heap.size ≤ w'.heap.size
  block : ∀ k, k < H → k ≠ R → w'.heap[k]? = w.heap[k]?
theorem Kp.refl (R H : Nat) (w : World) : Kp R H w w := ⟨rfl, rfl, rfl, Nat.le_refl _, fun _ _ _ => rfl⟩
theorem Kp.trans {R H : Nat} {a b c : World} (h : Kp R H a b) (k : Kp R H b c) : Kp R H a c :=
  ⟨k.os.trans h.os, k.tape.trans h.tape, k.output.trans h.output, Nat.le_trans h.size k.size, fun i hi hn => (k.block i hi hn).trans (h.block i hi hn)⟩
theorem Kp.of {R H : Nat} {w w' : World} (h : Below H w w') : Kp R H w w' := ⟨h.os, h.tape, h.output, h.size, fun k hk _ => h.block k hk⟩
theorem Kp.below {R H B : Nat} {w w' : World} (h : Kp R H w w') (hB : B ≤ R) (hH : B ≤ H) : Below B w w' := ⟨h.os, h.tape, h.output, h.size, fun k hk => h.block k (by omega) (by omega)⟩
theorem Kp.set (R H o : Nat) (w : World) (u : Value) : Kp R H w (w.setCell ⟨R, o, none⟩ u) := ⟨rfl, rfl, rfl, by simp [World.setCell], fun k _ hk => Below.heap_setCell _ _ _ _ hk⟩
theorem Kp.high {R H : Nat} {w wr : World} (h : Kp R H w wr) {b : Nat} (hb : H ≤ b) (o : Nat) (u : Value) : Kp R H w (wr.setCell ⟨b, o, none⟩ u) :=
  ⟨h.os, h.tape, h.output, by have := h.size; simp [World.setCell]; omega, fun k hk hn => (Below.heap_setCell wr _ _ _ (show k ≠ b by omega)).trans (h.block k hk hn)⟩
theorem Kp.drewN {R H : Nat} {w wr : World} (h : Kp R H w wr) (n : Nat) : Kp R H w (wr.drewN n) := ⟨h.os, h.tape, h.output, h.size, h.block⟩
theorem Kp.drew {R H : Nat} {w wr : World} (h : Kp R H w wr) : Kp R H w wr.drew := ⟨h.os, h.tape, h.output, h.size, h.block⟩
theorem Kp.alloc {R H : Nat} {w wr : World} (h : Kp R H w wr) (hH : H ≤ wr.heap.size) (o : Obj) : Kp R H w (wr.alloc o) :=
  h.trans (Kp.of ((Below.refl _ wr).alloc hH o))
/-- The row in its block: five cells. -/
structure RC (w : World) (R : Nat) (v : Nat → Value) : Prop where
  c : ∀ o, o < 5 → w.cell? ⟨R, o, none⟩ = some (v o)
  fz : ∀ o, w.frozen? ⟨R, o, none⟩ = false
  lt : R < w.heap.size
def upd (v : Nat → Value) (i : Nat) (u : Value) : Nat → Value := fun j => if j = i then u else v j
theorem RC.same {w w' : World} {R : Nat} {v : Nat → Value} (h : RC w R v) (hb : w'.heap[R]? = w.heap[R]?) (hs : w.heap.size ≤ w'.heap.size) : RC w' R v :=
  ⟨fun o ho => by rw [← h.c o ho]; simp only [World.cell?, hb], fun o => by rw [← h.fz o]; simp only [World.frozen?, hb], Nat.lt_of_lt_of_le h.lt hs⟩
theorem RC.below {w w' : World} {R : Nat} {v : Nat → Value} (h : RC w R v) (hb : Below w.heap.size w w') : RC w' R v := h.same (hb.block R h.lt) hb.size
theorem RC.set {w : World} {R : Nat} {v : Nat → Value} (h : RC w R v) (i : Nat) (u : Value) : RC (w.setCell ⟨R, i, none⟩ u) R (upd v i u) :=
  ⟨fun o ho => by
    unfold upd
    by_cases e : o = i
    · subst e; rw [if_pos rfl]; exact World.cell?_setCell_same w ⟨R, o, none⟩ _ (h.c o ho)
    · rw [if_neg e]; exact (World.cell?_setCell_other w _ _ _ (fun e' => e (by injection e' with _ e2; exact e2.symm))).trans (h.c o ho),
    fun o => by rw [World.frozen?_setCell]; exact h.fz o, by simpa [World.setCell] using h.lt⟩
theorem RC.drewN {w : World} {R : Nat} {v : Nat → Value} (h : RC w R v) (n : Nat) : RC (w.drewN n) R v := ⟨h.c, h.fz, h.lt⟩
theorem RC.drew {w : World} {R : Nat} {v : Nat → Value} (h : RC w R v) : RC w.drew R v := ⟨h.c, h.fz, h.lt⟩
theorem bel1 (w : World) (o : Obj) : Below w.heap.size w (w.alloc o) := (Below.refl _ w).alloc (Nat.le_refl _) o
theorem heap_new (w : World) (o : Obj) : (w.alloc o).heap[w.heap.size]? = some o := by
  show (w.heap.push o)[w.heap.size]? = _
  rw [Array.getElem?_push, if_pos rfl]
theorem tdr {B n : Nat} {a w : World} (h : Below B a w) : Below B a (w.drewN n) := ⟨h.os, h.tape, h.output, h.size, h.block⟩
theorem infoZ : ∃ i, Try.prog.info? 3 = some i ∧ i.zero = some (.int .i64 0) ∧ i.size = 1 ∧ i.bytes = 8 := by
  have h : (Try.prog.info? 3).map (fun i => (i.zero, i.size, i.bytes)) = some (some (.int .i64 0), 1, 8) := by kernel_rfl
  obtain ⟨i, hi, hz⟩ := Option.map_eq_some_iff.1 h
  simp only [Prod.mk.injEq] at hz
  exact ⟨i, hi, hz.1, hz.2.1, hz.2.2⟩
theorem infoR : ∃ i, Try.prog.info? 35 = some i ∧ i.zero = some (.agg #[.int .i64 0, .int .i64 0]) ∧ i.size = 2 ∧ i.bytes = 16 := by
  have h : (Try.prog.info? 35).map (fun i => (i.zero, i.size, i.bytes)) = some (some (.agg #[.int .i64 0, .int .i64 0]), 2, 16) := by kernel_rfl
  obtain ⟨i, hi, hz⟩ := Option.map_eq_some_iff.1 h
  simp only [Prod.mk.injEq] at hz
  exact ⟨i, hi, hz.1, hz.2.1, hz.2.2⟩
/-- How one room is laid: the error, the end. -/
def layFrom (x : Rm) (e : Int) : Int := if x.of = -1 then e else x.of
def layErr (x : Rm) (e : Int) : Int := if x.sz < 0 ∨ layFrom x e < 0 then 73 else if layFrom x e < e then 70 else if 65535 - x.sz < layFrom x e then 72 else 0
theorem layErr_ok {x : Rm} {e : Int} (h : layErr x e = 0) : 0 ≤ x.sz ∧ e ≤ layFrom x e ∧ layFrom x e + x.sz ≤ 65535 := by
  unfold layErr at h
  split at h
  · omega
  · split at h
    · omega
    · split at h
      · omega
      · omega
end Go.Proofs.Ytjdinlgbfpkodaa
