/- IYl. -/
import Derived.Test.YtjjhfiddebmgcaaGreatDoorG01
import Derived.Test.YtjjhfiddebmgcaaGreatDoorG28
namespace Go.Proofs.YtjjhfiddebmgcaaGreatDoor
open Go.ChangeShapes Go.WideShapes Go.ChangeAt Go.RowKit Go.Shelf Go.Maps
open J
attribute [local go_sem] Oper.semAt_some

/-- The frame of the law ahead of a round of its second loop. -/
abbrev KA (H Bw Bq : Nat) (r : Int) (u : Nat → Value) : Array Value := #[u 0, u 1, u 2, u 3, u 4, u 5, .pointer (some ⟨H, 0, none⟩), u 7, .pointer (some ⟨H + 1, 0, none⟩), .pointer (some ⟨Bw, 0, none⟩), u 10, .pointer (some ⟨Bq, 0, none⟩), u 12, .int .i64 r, u 14, u 15, u 16, u 17, u 18, u 19, u 20, u 21, u 22, u 23, u 24, u 25, u 26, u 27, u 28, u 29, u 30, u 31, u 32, u 33, u 34, u 35, u 36, u 37, u 38, u 39, u 40, u 41, u 42, u 43, u 44, u 45, u 46, u 47, u 48, u 49, u 50, u 51, u 52, u 53, u 54, u 55, u 56, u 57, u 58, u 59, u 60, u 61, u 62, u 63, u 64, u 65, u 66, u 67, u 68, u 69, u 70, u 71, u 72, u 73, u 74, u 75, u 76, u 77, u 78, u 79, u 80, u 81, u 82, u 83, u 84, u 85, u 86, u 87, u 88, u 89, u 90, u 91, u 92, u 93, u 94, u 95, u 96, u 97, u 98, u 99, u 100, u 101, u 102, u 103, u 104, u 105, u 106, u 107, u 108, u 109, u 110, u 111, u 112, u 113, u 114, u 115, u 116, u 117]
abbrev KB (H Bw Bq N : Nat) (r x : Int) (u : Nat → Value) : Array Value := #[u 0, u 1, u 2, u 3, u 4, u 5, .pointer (some ⟨H, 0, none⟩), u 7, .pointer (some ⟨H + 1, 0, none⟩), .pointer (some ⟨Bw, 0, none⟩), u 10, .pointer (some ⟨Bq, 0, none⟩), u 12, .int .i64 r, .pointer (some ⟨N, 0, none⟩), .int .i64 x, u 16, u 17, u 18, u 19, u 20, u 21, u 22, u 23, u 24, u 25, u 26, u 27, u 28, u 29, u 30, u 31, u 32, u 33, u 34, u 35, u 36, u 37, u 38, u 39, u 40, u 41, u 42, u 43, u 44, u 45, u 46, u 47, u 48, u 49, u 50, u 51, u 52, u 53, u 54, u 55, u 56, u 57, u 58, u 59, u 60, u 61, u 62, u 63, u 64, u 65, u 66, u 67, u 68, u 69, u 70, u 71, u 72, u 73, u 74, u 75, u 76, u 77, u 78, u 79, u 80, u 81, u 82, u 83, u 84, u 85, u 86, u 87, u 88, u 89, u 90, u 91, u 92, u 93, u 94, u 95, u 96, u 97, u 98, u 99, u 100, u 101, u 102, u 103, u 104, u 105, u 106, u 107, u 108, u 109, u 110, u 111, u 112, u 113, u 114, u 115, u 116, u 117]
abbrev KC (H Bw Bq N K : Nat) (r x y : Int) (u : Nat → Value) : Array Value := #[u 0, u 1, u 2, u 3, u 4, u 5, .pointer (some ⟨H, 0, none⟩), u 7, .pointer (some ⟨H + 1, 0, none⟩), .pointer (some ⟨Bw, 0, none⟩), u 10, .pointer (some ⟨Bq, 0, none⟩), u 12, .int .i64 r, .pointer (some ⟨N, 0, none⟩), .int .i64 x, .pointer (some ⟨K, 0, none⟩), .int .i64 y, u 18, u 19, u 20, u 21, u 22, u 23, u 24, u 25, u 26, u 27, u 28, u 29, u 30, u 31, u 32, u 33, u 34, u 35, u 36, u 37, u 38, u 39, u 40, u 41, u 42, u 43, u 44, u 45, u 46, u 47, u 48, u 49, u 50, u 51, u 52, u 53, u 54, u 55, u 56, u 57, u 58, u 59, u 60, u 61, u 62, u 63, u 64, u 65, u 66, u 67, u 68, u 69, u 70, u 71, u 72, u 73, u 74, u 75, u 76, u 77, u 78, u 79, u 80, u 81, u 82, u 83, u 84, u 85, u 86, u 87, u 88, u 89, u 90, u 91, u 92, u 93, u 94, u 95, u 96, u 97, u 98, u 99, u 100, u 101, u 102, u 103, u 104, u 105, u 106, u 107, u 108, u 109, u 110, u 111, u 112, u 113, u 114, u 115, u 116, u 117]
theorem prefix_snoc {l pre : List Nat} {x : Nat} (h : pre <+: l) (hx : l[pre.length]? = some x) : (pre ++ [x]) <+: l := by
  obtain ⟨t, rfl⟩ := h
  cases t with
  | nil => rw [List.append_nil, List.getElem?_eq_none (Nat.le_refl _)] at hx; cases hx
  | cons y t =>
    rw [List.getElem?_append_right (Nat.le_refl _), Nat.sub_self] at hx
    cases hx
    exact ⟨t, by simp⟩
theorem prefix_last {l pre : List Nat} {x : Nat} (h : (pre ++ [x]) <+: l) : l[pre.length]? = some x := by
  obtain ⟨t, rfl⟩ := h
  simp
/-- What the second loop reads: all of it ahead of block n₀. -/
structure KS (n₀ H Bw Bq Bs : Nat) (M : Nat) (KN : List Nat) (W : World) : Prop where
  m : W.cell? ⟨H, 0, none⟩ = some (.int .i64 (M : Int))
  r : W.heap[H + 1]? = some (.cells #[.bool false] 4)
  wn : NBox n₀ Bw KN W
  sq : W.cell? ⟨Bq, 0, none⟩ = some (.func (.func 21) #[] #[.pointer (some ⟨Bs, 0, none⟩)])
  bs : NBox n₀ Bs KN W
  l1 : H + 1 < n₀
  l2 : Bw < n₀
  l3 : Bq < n₀
  l4 : Bs < n₀
theorem KS.below {n₀ H Bw Bq Bs : Nat} {M : Nat} {KN : List Nat} {W W' : World} (h : KS n₀ H Bw Bq Bs M KN W) (hb : Below n₀ W W') : KS n₀ H Bw Bq Bs M KN W' :=
  ⟨(hb.cell (p := ⟨H, 0, none⟩) (by have := h.l1; show H < n₀; omega)).trans h.m, (hb.block _ h.l1).trans h.r, h.wn.below hb h.l2, (hb.cell (p := ⟨Bq, 0, none⟩) h.l3).trans h.sq, h.bs.below hb h.l4, h.l1, h.l2, h.l3, h.l4⟩
theorem NBox.mono {n₀ n₁ Bs : Nat} {zs : List Nat} {W : World} (h : NBox n₀ Bs zs W) (hn : n₀ ≤ n₁) : NBox n₁ Bs zs W := by
  obtain ⟨pp, cp, h1, h2⟩ := h
  refine ⟨pp, cp, h1, fun j x hx => ?_⟩
  obtain ⟨g, e, hg, hc⟩ := h2 j x hx
  exact ⟨g, e, Nat.lt_of_lt_of_le hg hn, hc⟩
/-- The marks that loops over functions leave. -/
def MarksOk (n₀ : Nat) : List Deferred → World → Prop
  | [], _ => True
  | d :: ds, W => ∃ D, d = { target := .collected D, args := #[] } ∧ n₀ ≤ D ∧ W.heap[D]? = some (.deferred (some [])) ∧ (∀ d' ∈ ds, d'.target ≠ .collected D) ∧ MarksOk n₀ ds W
theorem MarksOk.below {n₀ : Nat} : ∀ {ds : List Deferred} {W W' : World}, MarksOk n₀ ds W → Below W.heap.size W W' → MarksOk n₀ ds W'
  | [], _, _, _, _ => trivial
  | _ :: _, _, _, ⟨D, h1, h2, h3, h4, h5⟩, hb => ⟨D, h1, h2, (hb.block D (Array.getElem?_eq_some_iff.1 h3).1).trans h3, h4, MarksOk.below h5 hb⟩
theorem MarksOk.lt {n₀ : Nat} : ∀ {ds : List Deferred} {W : World}, MarksOk n₀ ds W → ∀ d ∈ ds, ∃ D, d.target = .collected D ∧ D < W.heap.size
  | [], _, _, _, h => by cases h
  | d :: ds, W, ⟨D, h1, h2, h3, h4, h5⟩, d', hd => by
    rcases List.mem_cons.1 hd with rfl | hd
    · exact ⟨D, by rw [h1], (Array.getElem?_eq_some_iff.1 h3).1⟩
    · exact MarksOk.lt h5 d' hd
theorem MarksOk.put {n₀ D : Nat} {o : Obj} : ∀ {ds : List Deferred} {W : World}, MarksOk n₀ ds W → (∀ d' ∈ ds, d'.target ≠ .collected D) → MarksOk n₀ ds (W.putObj D o)
  | [], _, _, _ => trivial
  | d :: ds, W, ⟨D', h1, h2, h3, h4, h5⟩, hn => by
    refine ⟨D', h1, h2, (World.putObj_heap_other fun e => hn d (List.mem_cons_self ..) ?_).trans h3, h4, MarksOk.put h5 fun d' hd' => hn d' (List.mem_cons_of_mem _ hd')⟩
    rw [h1, e]
theorem MarksOk.set {n₀ g o : Nat} {v : Value} (hg : g < n₀) : ∀ {ds : List Deferred} {W : World}, MarksOk n₀ ds W → MarksOk n₀ ds (W.setCell ⟨g, o, none⟩ v)
  | [], _, _ => trivial
  | _ :: _, W, ⟨D', h1, h2, h3, h4, h5⟩ => ⟨D', h1, h2, (Below.heap_setCell W _ _ _ (show D' ≠ g by omega)).trans h3, h4, MarksOk.set hg h5⟩
theorem leaves_marks {n n₀ : Nat} {fn : Func} {tmps : Array Value} {R : Ending → World → Prop} : ∀ (ds : List Deferred) (W : World), MarksOk n₀ ds W →
    (∀ W', Below n₀ W W' → LeavesIn Fence.wide n Tryz.prog fn tmps R [] .returning W') → LeavesInM Fence.wide n Tryz.prog fn tmps R ds .returning W
  | [], W, _, h => h W (Below.refl _ _)
  | d :: ds, W, ⟨D, h1, h2, h3, h4, h5⟩, h => by
    subst h1
    have hput : Below n₀ W (W.putObj D (.deferred none)) := ⟨rfl, rfl, rfl, by simp [World.putObj], fun k hk => World.putObj_heap_other (by omega)⟩
    exact ⟨by simp, .inl ⟨D, _, rfl, run_takeDeferred h3, leaves_marks ds _ (h5.put h4) fun W' hb => h W' (hput.trans hb)⟩⟩
theorem blk_set {W : World} {g o : Nat} {cur : Array Value} {t : TypeId} (h : W.heap[g]? = some (.cells cur t (0, 0))) (u : Value) : ∃ cur', (W.setCell ⟨g, o, none⟩ u).heap[g]? = some (.cells cur' t (0, 0)) ∧ cur'.size = cur.size := by
  refine ⟨cur.setIfInBounds o u, ?_, by simp⟩
  have e : (W.setCell ⟨g, o, none⟩ u).heap = W.heap.modify g (fun x => match x with
    | .cells cs t f => .cells (cs.setIfInBounds o u) t f
    | x => x) := rfl
  rw [e, Array.getElem?_modify, if_pos rfl, h]
  rfl
theorem grown_set {A W : World} {g o : Nat} (h : A.grownBy W (some g)) (u : Value) : A.grownBy (W.setCell ⟨g, o, none⟩ u) (some g) :=
  h.trans ⟨rfl, rfl, rfl, by simp [World.setCell], fun k hk hne => Below.heap_setCell W _ _ _ fun e => hne (by rw [e])⟩
/-- A sequence of places: a function value; its box holds their list. -/
def SeqPost (w : World) (ks : List Nat) (e : Ending) (w' : World) : Prop := ∃ Bs v, e = .returned (.func (.func 21) #[] #[.pointer (some ⟨Bs, 0, none⟩)]) ∧ w.heap.size ≤ Bs ∧ w'.heap[Bs]? = some (.cells #[v] 31) ∧ NRow w' w.heap.size v ks ∧ Below w.heap.size w w'
theorem CopS.same {s : ByteArray} {w w' : World} {base g cap : Nat} {ps : List TkP} (h : CopS s w base g cap ps) (hg : w'.heap[g]? = w.heap[g]?) (hx : ∀ x ∈ ps, w'.heap[x.g]? = w.heap[x.g]?) : CopS s w' base g cap ps :=
  ⟨own_kept h.row fun k hk => by obtain rfl : g = k := by simpa [Value.ownBlock] using hk
                                 exact hg, fun x hm => ⟨own_kept (h.good x hm).1 fun k hk => by obtain rfl : x.g = k := by simpa [Value.ownBlock] using hk
                                                                                                exact hx x hm, (h.good x hm).2⟩, h.dis⟩
/-- What the law's first half holds throughout: the form handed in, most, what is answered, the copied form. -/
structure YB (w : World) (f : Fm) (pp : Option Addr) (cp : Nat) (most : Int) (Bw Bo g cap : Nat) (ps : List TkP) (W : World) : Prop where
  f0 : W.heap[w.heap.size]? = some (fmO f pp cp)
  m : W.heap[w.heap.size + 1]? = some (.cells #[.int .i64 most] 3)
  r : W.heap[w.heap.size + 2]? = some (.cells #[.bool false] 4)
  o : W.heap[Bo]? = some (fmO f (some ⟨g, 0, none⟩) cap)
  c : CopS spS W (Bw + 1) g cap ps
  gB : g < Bo
  xB : ∀ x ∈ ps, x.g < Bo
  wB : w.heap.size + 2 < Bw
  b : Below w.heap.size w W
theorem YB.same {w : World} {f : Fm} {pp : Option Addr} {cp : Nat} {most : Int} {Bw Bo g cap : Nat} {ps : List TkP} {W W' : World} (h : YB w f pp cp most Bw Bo g cap ps W) (hb : Below w.heap.size w W') (he : ∀ k, k ≤ Bo → k ≠ Bw → W'.heap[k]? = W.heap[k]?) : YB w f pp cp most Bw Bo g cap ps W' := by
  have h1 := h.wB
  have h2 := h.c.lt.1
  have h3 := h.gB
  exact ⟨(he _ (by omega) (by omega)).trans h.f0, (he _ (by omega) (by omega)).trans h.m, (he _ (by omega) (by omega)).trans h.r, (he _ (by omega) (by omega)).trans h.o,
    h.c.same (he _ (by omega) (by omega)) (fun x hx => he _ (by have := h.xB x hx; omega) (by have := (h.c.good x hx).1.lt.1; omega)), h.gB, h.xB, h.wB, hb⟩
/-- The lists that are held against one another: what is wanted, what the sequence gives. -/
def YW (W : World) (B g Bw Bq : Nat) (ks : List Nat) : Prop := ∃ v Bs vs, W.heap[Bw]? = some (.cells #[v] 31) ∧ NRow W B v ks ∧ v.ownBlock ≠ some g ∧ W.heap[Bq]? = some (.cells #[.func (.func 21) #[] #[.pointer (some ⟨Bs, 0, none⟩)]] 35) ∧ W.heap[Bs]? = some (.cells #[vs] 31) ∧ NRow W B vs ks ∧ vs.ownBlock ≠ some g ∧ Bs ≠ g
theorem NRow.same {W W' : World} {base : Nat} {v : Value} {ns : List Nat} (h : NRow W base v ns) (hb : ∀ k, v.ownBlock = some k → W'.heap[k]? = W.heap[k]?) : NRow W' base v ns := own_kept h hb
end Go.Proofs.YtjjhfiddebmgcaaGreatDoor
