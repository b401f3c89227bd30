/- Rows apart from each other; marks; appends that leave what they append to. -/
import Derived.Test.YtjdinlgbfpkodaaLLk
namespace Go.Proofs.Ytjdinlgbfpkodaa
open Go.ChangeShapes Go.WideShapes Go.ChangeAt Go.RowKit Go.Shelf

/-- A row of one's own whose block lies from lo on, ahead of hi. -/
structure IW (W : World) (lo hi : Nat) (ty : TypeId) (sz : Nat) (v : Value) (n : Nat) (xs : List Value) : Prop where
  own : W.ownsRow lo ty sz v n xs
  hi : ∀ k, v.ownBlock = some k → k < hi
abbrev IZ (W : World) (lo hi : Nat) (v : Value) (l : List Int) : Prop := IW W lo hi 3 1 v l.length (l.map iV)
abbrev IR (W : World) (lo hi : Nat) (v : Value) (l : List Rm) : Prop := IW W lo hi 35 2 v l.length (rmCells l)
theorem IW.keep {W W' : World} {lo hi : Nat} {ty : TypeId} {sz : Nat} {v : Value} {n : Nat} {xs : List Value} (h : IW W lo hi ty sz v n xs) (hb : ∀ k, lo ≤ k → k < hi → W'.heap[k]? = W.heap[k]?) : IW W' lo hi ty sz v n xs :=
  ⟨own_same h.own fun k hk => hb k (own_lt h.own hk).1 (h.hi k hk), h.hi⟩
theorem IZ.sl {W : World} {lo hi : Nat} {v : Value} {l : List Int} (h : IZ W lo hi v l) : ∃ pp cp, v = .slice pp l.length cp ∧ SlZ W pp W.heap.size l := ZOwn.sl h.own
theorem IR.sl {W : World} {lo hi : Nat} {v : Value} {l : List Rm} (h : IR W lo hi v l) : ∃ pp cp, v = .slice pp l.length cp ∧ SlR W pp W.heap.size l := ROwn.sl h.own
/-- Outside of lo up to hi nothing has changed. -/
structure Oth (lo hi : Nat) (W W' : World) : Prop where
  os : W'.os = W.os
  tape : W'.tape = W.tape
  output : W'.output = W.output
  size : W'.heap.size = W.heap.size
  block : ∀ k, (k < lo ∨ hi ≤ k) → W'.heap[k]? = W.heap[k]?
theorem Oth.refl (lo hi : Nat) (W : World) : Oth lo hi W W := ⟨rfl, rfl, rfl, rfl, fun _ _ => rfl⟩
theorem Oth.set {lo hi : Nat} {W W' : World} (h : Oth lo hi W W') {g o : Nat} (h1 : lo ≤ g) (h2 : g < hi) (u : Value) : Oth lo hi W (W'.setCell ⟨g, o, none⟩ u) :=
  ⟨h.os, h.tape, h.output, by simp [World.setCell, h.size], fun k hk => (Below.heap_setCell _ _ _ _ (show k ≠ g by omega)).trans (h.block k hk)⟩
/-- A cell of a row of one's own is written. -/
theorem own_put {W : World} {base : Nat} {e : TypeId} {size g n cap : Nat} {xs : List Value} (h : W.ownsRow base e size (.slice (some ⟨g, 0, none⟩) n cap) n xs) (o : Nat) (u : Value) : (W.setCell ⟨g, o, none⟩ u).ownsRow base e size (.slice (some ⟨g, 0, none⟩) n cap) n (xs.set o u) := by
  rcases h.2 with ⟨e1, _⟩ | ⟨g', cap', cur, e1, hb, hg, hn, hm, hs, hx⟩
  · cases e1
  · cases e1
    refine ⟨by rw [List.length_set]; exact h.1, .inr ⟨g, cap, cur.setIfInBounds o u, rfl, hb, ?_, hn, hm, by simpa using hs, ?_⟩⟩
    · have e : (W.setCell ⟨g, o, none⟩ u).heap = W.heap.modify g (fun x => match x with
        | .cells cs t f => .cells (cs.setIfInBounds o u) t f
        | x => x) := rfl
      rw [e, Array.getElem?_modify, if_pos rfl, hg]
      rfl
    · rw [← hx, Array.toList_setIfInBounds, List.take_set]
theorem own_cellw {W : World} {base : Nat} {e : TypeId} {size g n cap : Nat} {xs : List Value} (h : W.ownsRow base e size (.slice (some ⟨g, 0, none⟩) n cap) n xs) {o : Nat} (ho : o < xs.length) : (∃ u, W.cell? ⟨g, o, none⟩ = some u) ∧ (∀ q, W.frozen? ⟨g, q, none⟩ = false) ∧ base ≤ g ∧ g < W.heap.size := by
  have hc := World.ownsRow.cells h (g := g) rfl o _ (List.getElem?_eq_getElem ho)
  rw [addrL, Nat.zero_add] at hc
  refine ⟨⟨_, hc⟩, ?_, own_lt h rfl⟩
  rcases h.2 with ⟨e1, _⟩ | ⟨g', cap', cur, e1, hb, hg, hn, hm, hs, hx⟩
  · cases e1
  · cases e1
    intro q
    simp only [World.frozen?, hg]
    simp
theorem own_shape {W : World} {base : Nat} {e : TypeId} {size n : Nat} {v : Value} {xs : List Value} (h : W.ownsRow base e size v n xs) (hn : 0 < n) : ∃ g cap, v = .slice (some ⟨g, 0, none⟩) n cap := by
  rcases h.2 with ⟨_, h0⟩ | ⟨g, cap, cur, e1, _⟩
  · omega
  · exact ⟨g, cap, e1⟩
theorem rmCells_set : ∀ (l : List Rm) (j : Nat) (a b : Int), j < l.length → (rmCells (l.set j ⟨a, b⟩)) = ((rmCells l).set (j * 2) (.int .i64 a)).set (j * 2 + 1) (.int .i64 b)
  | [], _, _, _, h => by simp at h
  | x :: r, 0, a, b, _ => by simp [rmCells, rmC]
  | x :: r, j + 1, a, b, h => by
    have ih := rmCells_set r j a b (by simpa using h)
    unfold rmCells at ih ⊢
    simp only [List.set_cons_succ, List.flatMap_cons, ih]
    simp [rmC, Nat.add_mul]
/-- An append leaves the row as it was, or nothing at all has changed. -/
theorem z_ap2 {W : World} {lo hi : Nat} {v : Value} {al : List Int} {t : Int} (h : IZ W lo hi v al) (hl : al.length + 1 ≤ 17592186044416) (hlo : lo ≤ W.heap.size) :
    ∃ p' c' w', (∀ ty, (Builtin.append_ #[24, 24] ty #[v, .slice (some ⟨W.heap.size, 0, none⟩) 1 1]).run Try.prog (W.alloc (.cells #[.int .i64 t] 3)) = .ok (.slice p' (al.length + 1) c') w') ∧ IZ w' lo hi v al ∧ IZ w' lo w'.heap.size (.slice p' (al.length + 1) c') (al ++ [t]) ∧ w'.os = W.os ∧ w'.tape = W.tape ∧ w'.output = W.output ∧ W.heap.size ≤ w'.heap.size ∧ (∀ k, k < W.heap.size → v.ownBlock ≠ some k → w'.heap[k]? = W.heap[k]?) ∧ ∀ k, (Value.slice p' (al.length + 1) c').ownBlock = some k → v.ownBlock = some k ∨ W.heap.size ≤ k := by
  have hB := bel1 W (.cells #[.int .i64 t] 3)
  have hs : (W.alloc (.cells #[.int .i64 t] 3)).heap.size = W.heap.size + 1 := by rw [World.size_alloc]
  have hO := own_below h.own hB
  obtain ⟨v', w', hrun, hown, hgr, hbk⟩ := z_ap (bl := [t]) (ad := ⟨W.heap.size, 0, none⟩) (H := W.heap.size + 1) 1 hO (ZRow.lit (heap_new W _) (Nat.lt_succ_self _)) (by simpa using hl) (by omega)
  obtain ⟨p', c', hv', _⟩ := hown.shape
  rw [List.length_append, List.length_singleton] at hv'
  have hsz := hgr.size
  refine ⟨p', c', w', by rw [← hv']; exact hrun, ⟨?_, h.hi⟩, ?_, hgr.os.trans hB.os, hgr.tape.trans hB.tape, hgr.output.trans hB.output, by omega, fun k hk hn => (hgr.block k (by omega) (fun e => hn e.symm)).trans (hB.block k hk), fun k hk => ?_⟩
  · -- the elder row
    rcases h.own.2 with ⟨rfl, h0⟩ | ⟨g, cap, cur, e1, hb, hg, hn, hm, hs', hx⟩
    · exact ⟨h.own.1, .inl ⟨rfl, h0⟩⟩
    · subst e1
      by_cases hroom : al.length + 1 ≤ cap
      · -- in the same block: a front of the longer row
        have hfr : ∃ cur', w'.heap[g]? = some (.cells cur' 3 (0, 0)) ∧ cur'.size = cap * 1 ∧ cur'.toList.take ((al.length + 1) * 1) = (al ++ [t]).map iV ∧ v' = .slice (some ⟨g, 0, none⟩) (al.length + 1) cap := by
          obtain ⟨i0, hi', hz', hs2, hby'⟩ := infoZ
          have hr2 := run_append_room_src (P := Try.prog) (W.alloc (.cells #[.int .i64 t] 3)) 24 24 0 3 i0 Try.underlying24 hi' g 0 al.length cap (.slice (some ⟨W.heap.size, 0, none⟩) 1 1) 1 [.int .i64 t] (by
            rw [hs2]
            exact Src.ofSlice (P := Try.prog) (W.alloc (.cells #[.int .i64 t] 3)) Try.underlying24 ⟨W.heap.size, 0, none⟩ 1 1 [.int .i64 t] rfl (World.news_of_block (heap_new W _)) (fun u hu => by cases hu with | head => rfl | tail _ h => cases h)) hroom
            (fun j hj => by
              rw [hs2]
              have hc := cell_lit ((hB.block g (Array.getElem?_eq_some_iff.1 hg).1).trans hg) (0 + al.length * 1 + j)
              simp at hj
              rw [hc, Array.getElem?_eq_getElem (by omega)]
              rfl)
            (fun j hj => by
              simp only [World.frozen?, (hB.block g (Array.getElem?_eq_some_iff.1 hg).1).trans hg]
              simp)
          have hr1 := hrun 0
          rw [show ([t] : List Int).length = 1 from rfl] at hr1
          rw [hr2] at hr1
          injection hr1 with e1 e2
          rcases hown.2 with ⟨e0, h0⟩ | ⟨g2, cap2, cur2, e3, _, hg2, _, _, hs3, hx3⟩
          · simp at h0
          · rw [List.length_append] at e3
            rw [← e1] at e3
            injection e3 with e4 e5 e6
            injection e4 with e4
            injection e4 with e4
            subst e4 e6
            rw [List.length_append] at hx3
            exact ⟨cur2, hg2, hs3, hx3, e1.symm⟩
        obtain ⟨cur', g1, g2, g3, _⟩ := hfr
        refine ⟨h.own.1, .inr ⟨g, cap, cur', rfl, hb, g1, hn, hm, g2, ?_⟩⟩
        have : cur'.toList.take (al.length * 1) = (cur'.toList.take ((al.length + 1) * 1)).take (al.length * 1) := by rw [List.take_take]; congr 1; omega
        rw [this, g3, List.map_append, List.take_left' (by simp)]
      · -- a new block
        obtain ⟨i0, hi', hz', hs2, hby'⟩ := infoZ
        have holds : ∀ j u, (al.map iV)[j]? = some u → (W.alloc (.cells #[.int .i64 t] 3)).cell? ((⟨g, 0, none⟩ : Addr).add j) = some u := hO.cells (g := g) rfl
        have hr2 := run_append_grow (P := Try.prog) (W.alloc (.cells #[.int .i64 t] 3)) 24 0 3 i0 (.int .i64 0) Try.underlying24 hi' hz' ⟨g, 0, none⟩ al.length cap (al.map iV) (by rw [hs2]; exact h.own.1) holds ⟨W.heap.size, 0, none⟩ 1 1 [.int .i64 t] (by rw [hs2]; rfl) (World.news_of_block (heap_new W _)) (by omega) (by omega) (growslice_fits (by omega) (by rw [hby']; omega))
        have hr1 := hrun 0
        rw [show ([t] : List Int).length = 1 from rfl] at hr1
        rw [hr2] at hr1
        injection hr1 with e1 e2
        refine own_same h.own fun k hk => ?_
        rw [← e2]
        have hk2 := (own_lt h.own hk).2
        exact (heap_alloc_old _ _ (by show k < (W.alloc _).heap.size; omega)).trans (hB.block k hk2)
  · rw [← hv']
    refine ⟨?_, fun k hk => (own_lt hown hk).2⟩
    exact hown
  · rw [← hv'] at hk
    rcases hbk with e | e
    · exact .inl (e ▸ hk)
    · rw [e] at hk
      cases hk
      exact .inr (by rw [hs]; omega)
/-- An append leaves the row as it was, or nothing at all has changed. -/
theorem r_ap2 {W : World} {lo hi : Nat} {v : Value} {al : List Rm} {a b : Int} (h : IR W lo hi v al) (hl : al.length + 1 ≤ 8796093022208) (hlo : lo ≤ W.heap.size) :
    ∃ p' c' w', (∀ ty, (Builtin.append_ #[23, 23] ty #[v, .slice (some ⟨W.heap.size, 0, none⟩) 1 1]).run Try.prog (W.alloc (.cells #[.int .i64 a, .int .i64 b] 35)) = .ok (.slice p' (al.length + 1) c') w') ∧ IR w' lo hi v al ∧ IR w' lo w'.heap.size (.slice p' (al.length + 1) c') (al ++ [⟨a, b⟩]) ∧ w'.os = W.os ∧ w'.tape = W.tape ∧ w'.output = W.output ∧ W.heap.size ≤ w'.heap.size ∧ (∀ k, k < W.heap.size → v.ownBlock ≠ some k → w'.heap[k]? = W.heap[k]?) ∧ ∀ k, (Value.slice p' (al.length + 1) c').ownBlock = some k → v.ownBlock = some k ∨ W.heap.size ≤ k := by
  have hB := bel1 W (.cells #[.int .i64 a, .int .i64 b] 35)
  have hs : (W.alloc (.cells #[.int .i64 a, .int .i64 b] 35)).heap.size = W.heap.size + 1 := by rw [World.size_alloc]
  have hO := own_below h.own hB
  obtain ⟨v', w', hrun, hown, hgr, hbk⟩ := r_ap (bl := [⟨a, b⟩]) (ad := ⟨W.heap.size, 0, none⟩) (H := W.heap.size + 1) 1 hO (RmRow.lit (heap_new W _) (Nat.lt_succ_self _)) (by simpa using hl) (by omega)
  obtain ⟨p', c', hv', _⟩ := hown.shape
  rw [List.length_append, List.length_singleton] at hv'
  have hsz := hgr.size
  refine ⟨p', c', w', by rw [← hv']; exact hrun, ⟨?_, h.hi⟩, ?_, hgr.os.trans hB.os, hgr.tape.trans hB.tape, hgr.output.trans hB.output, by omega, fun k hk hn => (hgr.block k (by omega) (fun e => hn e.symm)).trans (hB.block k hk), fun k hk => ?_⟩
  · -- the elder row
    rcases h.own.2 with ⟨rfl, h0⟩ | ⟨g, cap, cur, e1, hb, hg, hn, hm, hs', hx⟩
    · exact ⟨h.own.1, .inl ⟨rfl, h0⟩⟩
    · subst e1
      by_cases hroom : al.length + 1 ≤ cap
      · -- in the same block: a front of the longer row
        have hfr : ∃ cur', w'.heap[g]? = some (.cells cur' 35 (0, 0)) ∧ cur'.size = cap * 2 ∧ cur'.toList.take ((al.length + 1) * 2) = rmCells (al ++ [⟨a, b⟩]) ∧ v' = .slice (some ⟨g, 0, none⟩) (al.length + 1) cap := by
          obtain ⟨i0, hi', hz', hs2, hby'⟩ := infoR
          have hr2 := run_append_room_src (P := Try.prog) (W.alloc (.cells #[.int .i64 a, .int .i64 b] 35)) 23 23 0 35 i0 Try.underlying23 hi' g 0 al.length cap (.slice (some ⟨W.heap.size, 0, none⟩) 1 1) 1 [.int .i64 a, .int .i64 b] (by
            rw [hs2]
            exact Src.ofSlice (P := Try.prog) (W.alloc (.cells #[.int .i64 a, .int .i64 b] 35)) Try.underlying23 ⟨W.heap.size, 0, none⟩ 1 1 [.int .i64 a, .int .i64 b] rfl (World.news_of_block (heap_new W _)) (fun u hu => by simp only [List.mem_cons, List.not_mem_nil, or_false] at hu; rcases hu with rfl | rfl <;> rfl)) hroom
            (fun j hj => by
              rw [hs2]
              have hc := cell_lit ((hB.block g (Array.getElem?_eq_some_iff.1 hg).1).trans hg) (0 + al.length * 2 + j)
              simp at hj
              rw [hc, Array.getElem?_eq_getElem (by omega)]
              rfl)
            (fun j hj => by
              simp only [World.frozen?, (hB.block g (Array.getElem?_eq_some_iff.1 hg).1).trans hg]
              simp)
          have hr1 := hrun 0
          rw [show ([⟨a, b⟩] : List Rm).length = 1 from rfl] at hr1
          rw [hr2] at hr1
          injection hr1 with e1 e2
          rcases hown.2 with ⟨e0, h0⟩ | ⟨g2, cap2, cur2, e3, _, hg2, _, _, hs3, hx3⟩
          · simp at h0
          · rw [List.length_append] at e3
            rw [← e1] at e3
            injection e3 with e4 e5 e6
            injection e4 with e4
            injection e4 with e4
            subst e4 e6
            rw [List.length_append] at hx3
            exact ⟨cur2, hg2, hs3, hx3, e1.symm⟩
        obtain ⟨cur', g1, g2, g3, _⟩ := hfr
        refine ⟨h.own.1, .inr ⟨g, cap, cur', rfl, hb, g1, hn, hm, g2, ?_⟩⟩
        have : cur'.toList.take (al.length * 2) = (cur'.toList.take ((al.length + 1) * 2)).take (al.length * 2) := by rw [List.take_take]; congr 1; omega
        rw [this, g3, rmCells_append, List.take_left' (rmCells_length al)]
      · -- a new block
        obtain ⟨i0, hi', hz', hs2, hby'⟩ := infoR
        have holds : ∀ j u, (rmCells al)[j]? = some u → (W.alloc (.cells #[.int .i64 a, .int .i64 b] 35)).cell? ((⟨g, 0, none⟩ : Addr).add j) = some u := hO.cells (g := g) rfl
        have hr2 := run_append_grow (P := Try.prog) (W.alloc (.cells #[.int .i64 a, .int .i64 b] 35)) 23 0 35 i0 (.agg #[.int .i64 0, .int .i64 0]) Try.underlying23 hi' hz' ⟨g, 0, none⟩ al.length cap (rmCells al) (by rw [hs2]; exact h.own.1) holds ⟨W.heap.size, 0, none⟩ 1 1 [.int .i64 a, .int .i64 b] (by rw [hs2]; rfl) (World.news_of_block (heap_new W _)) (by omega) (by omega) (growslice_fits (by omega) (by rw [hby']; omega))
        have hr1 := hrun 0
        rw [show ([⟨a, b⟩] : List Rm).length = 1 from rfl] at hr1
        rw [hr2] at hr1
        injection hr1 with e1 e2
        refine own_same h.own fun k hk => ?_
        rw [← e2]
        have hk2 := (own_lt h.own hk).2
        exact (heap_alloc_old _ _ (by show k < (W.alloc _).heap.size; omega)).trans (hB.block k hk2)
  · rw [← hv']
    refine ⟨?_, fun k hk => (own_lt hown hk).2⟩
    exact hown
  · rw [← hv'] at hk
    rcases hbk with e | e
    · exact .inl (e ▸ hk)
    · rw [e] at hk
      cases hk
      exact .inr (by rw [hs]; omega)
end Go.Proofs.Ytjdinlgbfpkodaa
