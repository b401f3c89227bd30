/- Rows of one's own, one for each number: apart from each other. -/
import Derived.Test.YtnicdehbedcdpaaTMem
namespace Go.Proofs.Ytnicdehbedcdpaa
open Go.ChangeShapes Go.WideShapes Go.ChangeAt Go.RowKit

theorem ownLt {W : World} {base : Nat} {e : TypeId} {s : Nat} {v : Value} {n : Nat} {xs : List Value} (h : W.ownsRow base e s v n xs) {k : Nat} (hk : v.ownBlock = some k) : base ≤ k ∧ k < W.heap.size := by
  rcases h.2 with ⟨rfl, _⟩ | ⟨g, cap, cur, rfl, hb', hg, r⟩
  · cases hk
  · cases hk; exact ⟨hb', (Array.getElem?_eq_some_iff.1 hg).1⟩
theorem ownSame {W W' : World} {base : Nat} {e : TypeId} {s : Nat} {v : Value} {n : Nat} {xs : List Value} (h : W.ownsRow base e s v n xs) (hb : ∀ k, v.ownBlock = some k → W'.heap[k]? = W.heap[k]?) : W'.ownsRow base e s v n xs := by
  refine ⟨h.1, ?_⟩
  rcases h.2 with h0 | ⟨g, cap, cur, rfl, hb', hg, r⟩
  · exact .inl h0
  · exact .inr ⟨g, cap, cur, rfl, hb', (hb g rfl).trans hg, r⟩
/-- A row: what it is of, its slice, its cells. -/
structure Rw where
  ty : TypeId
  sz : Nat
  v : Value
  n : Nat
  xs : List Value
def Rw.own (r : Rw) (W : World) (bot : Nat) : Prop := W.ownsRow bot r.ty r.sz r.v r.n r.xs
/-- Rows by number; unlike numbers lie in unlike blocks. -/
structure PF (W : World) (bot : Nat) (f : Nat → Rw) : Prop where
  own : ∀ c, (f c).own W bot
  apart : ∀ c c', c ≠ c' → ∀ k, (f c).v.ownBlock = some k → (f c').v.ownBlock ≠ some k
def upF (f : Nat → Rw) (c : Nat) (r : Rw) : Nat → Rw := fun x => if x = c then r else f x
theorem upF_same (f : Nat → Rw) (c : Nat) (r : Rw) : upF f c r c = r := if_pos rfl
theorem upF_ne (f : Nat → Rw) (c : Nat) (r : Rw) {x : Nat} (h : x ≠ c) : upF f c r x = f x := if_neg h
theorem PF.lt {W : World} {bot : Nat} {f : Nat → Rw} (h : PF W bot f) (c : Nat) {k : Nat} (hk : (f c).v.ownBlock = some k) : bot ≤ k ∧ k < W.heap.size := ownLt (h.own c) hk
/-- Nothing from bot on has changed. -/
theorem PF.same {W W' : World} {bot : Nat} {f : Nat → Rw} (h : PF W bot f) (hb : ∀ k, bot ≤ k → k < W.heap.size → W'.heap[k]? = W.heap[k]?) : PF W' bot f :=
  ⟨fun c => ownSame (h.own c) fun k hk => hb k (h.lt c hk).1 (h.lt c hk).2, h.apart⟩
theorem PF.keep {W W' : World} {bot : Nat} {f : Nat → Rw} (h : PF W bot f) (hb : Below W.heap.size W W') : PF W' bot f := h.same fun k _ hk => hb.block k hk
/-- One row is another now: in the block that it had, or in a new one. -/
theorem PF.upd {W W' : World} {bot : Nat} {f : Nat → Rw} (h : PF W bot f) (c : Nat) {r : Rw} (hO : r.own W' bot) (hv : ∀ k, r.v.ownBlock = some k → (f c).v.ownBlock = some k ∨ W.heap.size ≤ k) (hk : ∀ k, bot ≤ k → k < W.heap.size → (f c).v.ownBlock ≠ some k → W'.heap[k]? = W.heap[k]?) : PF W' bot (upF f c r) := by
  have hap : ∀ d, d ≠ c → ∀ k, r.v.ownBlock = some k → (f d).v.ownBlock ≠ some k := fun d hd k hk1 e => by
    rcases hv k hk1 with h1 | h1
    · exact h.apart d c hd k e h1
    · have := (h.lt d e).2; omega
  refine ⟨fun d => ?_, fun d d' hne k hk1 hk2 => ?_⟩
  · by_cases hd : d = c
    · subst hd; rw [upF_same]; exact hO
    · rw [upF_ne _ _ _ hd]
      exact ownSame (h.own d) fun k hk' => hk k (h.lt d hk').1 (h.lt d hk').2 fun e => h.apart d c hd k hk' e
  · by_cases hd : d = c
    · subst hd
      rw [upF_same] at hk1
      rw [upF_ne _ _ _ (fun e => hne e.symm)] at hk2
      exact hap d' (fun e => hne e.symm) k hk1 hk2
    · rw [upF_ne _ _ _ hd] at hk1
      by_cases hd' : d' = c
      · subst hd'
        rw [upF_same] at hk2
        exact hap d hd k hk2 hk1
      · rw [upF_ne _ _ _ hd'] at hk2
        exact h.apart d d' hne k hk1 hk2
/-- Cells of the same width, in a row. -/
theorem flat_length {α : Type} (f : α → List Value) (z : Nat) (hf : ∀ x, (f x).length = z) (l : List α) : (l.flatMap f).length = l.length * z := by
  induction l with
  | nil => simp
  | cons a r ih => rw [List.flatMap_cons, List.length_append, ih, List.length_cons, hf, Nat.add_mul]; omega
theorem flat_get {α : Type} (f : α → List Value) (z : Nat) (hf : ∀ x, (f x).length = z) : ∀ (l : List α) (i : Nat) (t : α), l[i]? = some t → ∀ j, j < z → (l.flatMap f)[i * z + j]? = (f t)[j]?
  | [], _, _, h, _, _ => by cases h
  | a :: r, 0, t, h, j, hj => by
    cases h
    rw [List.flatMap_cons, List.getElem?_append_left (by rw [hf]; omega), Nat.zero_mul, Nat.zero_add]
  | a :: r, i + 1, t, h, j, hj => by
    have ih := flat_get f z hf r i t h j hj
    rw [List.flatMap_cons, List.getElem?_append_right (by rw [hf, Nat.add_mul]; omega), hf, ← ih]
    congr 1
    rw [Nat.add_mul]
    omega
theorem flat_set {α : Type} (f : α → List Value) (z : Nat) (hf : ∀ x, (f x).length = z) : ∀ (l : List α) (i : Nat) (t t' : α) (j : Nat) (u : Value), l[i]? = some t → j < z → f t' = (f t).set j u → (l.set i t').flatMap f = (l.flatMap f).set (i * z + j) u
  | [], _, _, _, _, _, h, _, _ => by cases h
  | a :: r, 0, t, t', j, u, h, hj, e => by
    cases h
    rw [List.set_cons_zero, List.flatMap_cons, List.flatMap_cons, e, Nat.zero_mul, Nat.zero_add, List.set_append_left _ _ (by rw [hf]; exact hj)]
  | a :: r, i + 1, t, t', j, u, h, hj, e => by
    have ih := flat_set f z hf r i t t' j u h hj e
    rw [List.set_cons_succ, List.flatMap_cons, List.flatMap_cons, ih, List.set_append_right _ _ (by rw [hf, Nat.add_mul]; omega), hf]
    congr 2
    rw [Nat.add_mul]
    omega
/-- A cell of a row of one's own. -/
theorem own_get {W : World} {base : Nat} {e : TypeId} {size g n cap : Nat} {xs : List Value} (h : W.ownsRow base e size (.slice (some ⟨g, 0, none⟩) n cap) n xs) {o : Nat} {u : Value} (ho : xs[o]? = some u) : W.cell? ⟨g, o, none⟩ = some u ∧ W.frozen? ⟨g, o, none⟩ = false ∧ base ≤ g ∧ g < W.heap.size := by
  have hc := World.ownsRow.cells h (g := g) rfl o _ ho
  have ea : (⟨g, 0, none⟩ : Addr).add o = ⟨g, o, none⟩ := by unfold Addr.add; split <;> simp_all
  rw [ea] at hc
  refine ⟨hc, ?_, ownLt h rfl⟩
  rcases h.2 with ⟨e1, _⟩ | ⟨g', cap', cur, e1, hb, hg, hn, hm, hs, hx⟩
  · cases e1
  · cases e1
    simp only [World.frozen?, hg]
    simp
theorem own_put {W : World} {base : Nat} {e : TypeId} {size g n cap : Nat} {xs : List Value} (h : W.ownsRow base e size (.slice (some ⟨g, 0, none⟩) n cap) n xs) (o : Nat) (u : Value) : (W.setCell ⟨g, o, none⟩ u).ownsRow base e size (.slice (some ⟨g, 0, none⟩) n cap) n (xs.set o u) := by
  rcases h.2 with ⟨e1, _⟩ | ⟨g', cap', cur, e1, hb, hg, hn, hm, hs, hx⟩
  · cases e1
  · cases e1
    refine ⟨by rw [List.length_set]; exact h.1, .inr ⟨g, cap, cur.setIfInBounds o u, rfl, hb, ?_, hn, hm, by simpa using hs, ?_⟩⟩
    · have e : (W.setCell ⟨g, o, none⟩ u).heap = W.heap.modify g (fun x => match x with
        | .cells cs t f => .cells (cs.setIfInBounds o u) t f
        | x => x) := rfl
      rw [e, Array.getElem?_modify, if_pos rfl, hg]
      rfl
    · rw [← hx, Array.toList_setIfInBounds, List.take_set]
theorem own_shape {W : World} {base : Nat} {e : TypeId} {size n : Nat} {v : Value} {xs : List Value} (h : W.ownsRow base e size v n xs) (hn : 0 < n) : ∃ g cap, v = .slice (some ⟨g, 0, none⟩) n cap := by
  rcases h.2 with ⟨_, h0⟩ | ⟨g, cap, cur, e1, _⟩
  · omega
  · exact ⟨g, cap, e1⟩
theorem own_sl {W : World} {base : Nat} {e : TypeId} {size n : Nat} {v : Value} {xs : List Value} (h : W.ownsRow base e size v n xs) : ∃ p cap, v = .slice p n cap := by
  rcases h.2 with ⟨rfl, rfl⟩ | ⟨g, cap, cur, rfl, _⟩
  · exact ⟨none, 0, rfl⟩
  · exact ⟨_, cap, rfl⟩
/-- A front of a row. -/
theorem own_front {W : World} {base : Nat} {e : TypeId} {size g n m cap : Nat} {xs : List Value} (h : W.ownsRow base e size (.slice (some ⟨g, 0, none⟩) n cap) n xs) (hm : m ≤ n) : W.ownsRow base e size (.slice (some ⟨g, 0, none⟩) m cap) m (xs.take (m * size)) := by
  rcases h.2 with ⟨e1, _⟩ | ⟨g', cap', cur, e1, hb, hg, hn, hc, hs, hx⟩
  · cases e1
  · cases e1
    have hmn : m * size ≤ n * size := Nat.mul_le_mul_right _ hm
    refine ⟨by rw [List.length_take, h.1]; omega, .inr ⟨g, cap, cur, rfl, hb, hg, by omega, hc, hs, ?_⟩⟩
    rw [← hx, List.take_take]
    congr 1
    omega
/-- One cell of one row is written. -/
theorem PF.put {W : World} {bot : Nat} {f : Nat → Rw} (h : PF W bot f) (c : Nat) {g n cap o : Nat} (hv : (f c).v = .slice (some ⟨g, 0, none⟩) n cap) (hn : (f c).n = n) (u : Value) : PF (W.setCell ⟨g, o, none⟩ u) bot (upF f c ⟨(f c).ty, (f c).sz, .slice (some ⟨g, 0, none⟩) n cap, n, (f c).xs.set o u⟩) := by
  have hO := h.own c
  unfold Rw.own at hO
  rw [hv, hn] at hO
  refine h.upd c (own_put hO o u) (fun k hk => .inl (by rw [hv]; exact hk)) (fun k _ _ hne => Below.heap_setCell _ _ _ _ (fun e => hne (by rw [hv, e]; rfl)))
end Go.Proofs.Ytnicdehbedcdpaa
