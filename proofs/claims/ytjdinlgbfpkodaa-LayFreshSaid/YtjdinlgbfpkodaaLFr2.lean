/- Rows apart from each other, by colours. -/
import Derived.Test.YtjdinlgbfpkodaaLFr
import Derived.Test.YtjdinlgbfpkodaaLPlc
namespace Go.Proofs.Ytjdinlgbfpkodaa
open Go.ChangeShapes Go.WideShapes Go.ChangeAt Go.RowKit Go.Shelf

theorem fillR_off : ∀ (l : List Rm) (s : St) (i : Nat) (s' : St), fillR 0 l s i = .ok s' → StOk s i → (∀ x ∈ l, x.ok) → (∀ o ∈ s.off, i64ok o) → ∀ o ∈ s'.off, i64ok o
  | [], s, i, s', h, _, _, ho => by cases h; exact ho
  | x :: r, s, i, s', h, hs, hx, ho => by
    simp only [fillR] at h
    split at h
    · rename_i hE
      refine fillR_off r _ _ _ h (hs.stp 0 hE) (fun y hy => hx y (List.mem_cons_of_mem _ hy)) ?_
      intro o ho'
      simp only [stp, if_pos] at ho'
      rcases List.mem_append.1 ho' with h1 | h1
      · exact ho o h1
      · rw [List.mem_singleton] at h1
        rw [h1]
        exact layFrom_b (hx x (List.mem_cons_self ..)) hs.e
    · cases h
theorem placeZ_off (l : List Rm) (b : Int) (hx : ∀ x ∈ l, x.ok) : ∀ o ∈ (placeZ l b).off, i64ok o := by
  by_cases hb : blkErr b = 0
  · cases hf : fillR 0 l s0 0 with
    | error p => rw [placeZ_err (er := p.1) (j := p.2) hb (by rw [hf])]; intro o ho; cases ho
    | ok s =>
      rw [placeZ_ok hb hf]
      have := fillR_off l s0 0 s hf stOk0 hx (fun o ho => by cases ho)
      split
      · intro o ho; cases ho
      · exact this
  · rw [placeZ_blk hb]; intro o ho; cases ho
structure Row where
  ty : TypeId
  sz : Nat
  v : Value
  n : Nat
  xs : List Value
abbrev zR (p : Option Addr) (c n : Nat) (l : List Int) : Row := ⟨3, 1, .slice p n c, n, l.map iV⟩
abbrev rR (p : Option Addr) (c n : Nat) (l : List Rm) : Row := ⟨35, 2, .slice p n c, n, rmCells l⟩
theorem zlen {W : World} {bot n : Nat} {v : Value} {l : List Int} (h : W.ownsRow bot 3 1 v n (l.map iV)) : n = l.length := by have := h.1; rw [List.length_map] at this; omega
theorem rlen {W : World} {bot n : Nat} {v : Value} {l : List Rm} (h : W.ownsRow bot 35 2 v n (rmCells l)) : n = l.length := by have := h.1; rw [rmCells_length] at this; omega
/-- Rows of one's own: two of unlike colours lie in unlike blocks. -/
structure Pl (W : World) (bot : Nat) (rs : List (Nat × Row)) : Prop where
  own : ∀ c r, (c, r) ∈ rs → W.ownsRow bot r.ty r.sz r.v r.n r.xs
  apart : ∀ c r c' r', (c, r) ∈ rs → (c', r') ∈ rs → c ≠ c' → ∀ k, r.v.ownBlock = some k → r'.v.ownBlock ≠ some k
/-- What the law has made, wherever it has come to. -/
structure FE (w W : World) (pp : Option Addr) (l : List Rm) (rs : List (Nat × Row)) : Prop where
  l : SlR W pp w.heap.size l
  pl : Pl W w.heap.size rs
  bel : Below w.heap.size w W
theorem FE.keep {w W W' : World} {pp : Option Addr} {l : List Rm} {rs : List (Nat × Row)} (h : FE w W pp l rs) (hb : Below W.heap.size W W') : FE w W' pp l rs :=
  ⟨h.l.below (hb.mono h.bel.size), ⟨fun c r hr => own_below (h.pl.own c r hr) hb, h.pl.apart⟩, h.bel.trans (hb.mono h.bel.size)⟩
theorem FE.drewN {w W : World} {pp : Option Addr} {l : List Rm} {rs : List (Nat × Row)} (h : FE w W pp l rs) (n : Nat) : FE w (W.drewN n) pp l rs := h.keep (tdr (Below.refl _ W))
theorem FE.add {w W W' : World} {pp : Option Addr} {l : List Rm} {rs : List (Nat × Row)} (h : FE w W pp l rs) (c : Nat) {r : Row} (hO : W'.ownsRow W.heap.size r.ty r.sz r.v r.n r.xs) (hb : Below W.heap.size W W') : FE w W' pp l ((c, r) :: rs) := by
  have h2 := h.keep hb
  have hlt : ∀ d q, (d, q) ∈ rs → ∀ k, q.v.ownBlock = some k → k < W.heap.size := fun d q hq k hk => (own_lt (h.pl.own d q hq) hk).2
  have hge : ∀ k, r.v.ownBlock = some k → W.heap.size ≤ k := fun k hk => (own_lt hO hk).1
  refine ⟨h2.l, ⟨?_, ?_⟩, h2.bel⟩
  · intro d q hq
    cases hq with
    | head => exact own_mono hO h.bel.size
    | tail _ hq => exact h2.pl.own d q hq
  · intro d q d' q' hq hq' hne k hk hk'
    cases hq with
    | head =>
      cases hq' with
      | head => exact hne rfl
      | tail _ hq' => have := hlt d' q' hq' k hk'; have := hge k hk; omega
    | tail _ hq =>
      cases hq' with
      | head => have := hlt d q hq k hk; have := hge k hk'; omega
      | tail _ hq' => exact h2.pl.apart d q d' q' hq hq' hne k hk hk'
def updR (c : Nat) (r' : Row) (rs : List (Nat × Row)) : List (Nat × Row) := rs.map fun p => if p.1 = c then (c, r') else p
theorem mem_updR {c : Nat} {r' : Row} {rs : List (Nat × Row)} : ∀ p ∈ updR c r' rs, p = (c, r') ∨ (p ∈ rs ∧ p.1 ≠ c) := by
  intro p hp
  obtain ⟨q, hq, e⟩ := List.mem_map.1 hp
  by_cases h : q.1 = c
  · rw [if_pos h] at e; exact .inl e.symm
  · rw [if_neg h] at e; subst e; exact .inr ⟨hq, h⟩
theorem one_same {rs : List (Nat × Row)} {c : Nat} {r : Row} (h : (rs.filter fun p => p.1 == c).length = 1) (hr : (c, r) ∈ rs) : ∀ q, (c, q) ∈ rs → q = r := by
  intro q hq
  obtain ⟨x, hx⟩ := List.length_eq_one_iff.1 h
  have h1 : (c, r) ∈ rs.filter fun p => p.1 == c := List.mem_filter.2 ⟨hr, by simp⟩
  have h2 : (c, q) ∈ rs.filter fun p => p.1 == c := List.mem_filter.2 ⟨hq, by simp⟩
  rw [hx, List.mem_singleton] at h1 h2
  have := h2.trans h1.symm
  injection this
/-- A row is written over: the others are apart. -/
theorem FE.upd {w W W' : World} {pp : Option Addr} {l : List Rm} {rs rs' : List (Nat × Row)} (h : FE w W pp l rs) {c : Nat} {r r' : Row} (hr : (c, r) ∈ rs) (hv : r'.v.ownBlock = r.v.ownBlock) (hO : W'.ownsRow w.heap.size r'.ty r'.sz r'.v r'.n r'.xs) (ho : W'.os = W.os) (ht : W'.tape = W.tape) (hp : W'.output = W.output) (hs : W.heap.size ≤ W'.heap.size) (hk : ∀ k, k < W.heap.size → r.v.ownBlock ≠ some k → W'.heap[k]? = W.heap[k]?) (hrs : ∀ p ∈ rs', p = (c, r') ∨ (p ∈ rs ∧ p.1 ≠ c)) : FE w W' pp l rs' := by
  have hbl : ∀ k, k < w.heap.size → W'.heap[k]? = W.heap[k]? := fun k hk' => hk k (Nat.lt_of_lt_of_le hk' h.bel.size) (fun e => by have := (own_lt (h.pl.own c r hr) e).1; omega)
  have hold : ∀ d q, (d, q) ∈ rs → d ≠ c → W'.ownsRow w.heap.size q.ty q.sz q.v q.n q.xs := fun d q hq hd => own_same (h.pl.own d q hq) fun k hk' => hk k (own_lt (h.pl.own d q hq) hk').2 (fun e => h.pl.apart d q c r hq hr hd k hk' e)
  refine ⟨⟨h.l.row.same hbl⟩, ⟨?_, ?_⟩, ⟨ho.trans h.bel.os, ht.trans h.bel.tape, hp.trans h.bel.output, Nat.le_trans h.bel.size hs, fun k hk' => (hbl k hk').trans (h.bel.block k hk')⟩⟩
  · intro d q hq
    rcases hrs _ hq with e | ⟨hq, hd⟩
    · injection e with e1 e2; subst e1 e2; exact hO
    · exact hold d q hq hd
  · intro d q d' q' hq hq' hne k hk1 hk2
    rcases hrs _ hq with e | ⟨hq, hd⟩
    · injection e with e1 e2
      subst e1 e2
      rcases hrs _ hq' with e | ⟨hq', hd'⟩
      · injection e with e1 e2; exact hne e1.symm
      · exact h.pl.apart _ _ _ _ hr hq' (fun e => hd' e.symm) k (hv ▸ hk1) hk2
    · rcases hrs _ hq' with e | ⟨hq', hd'⟩
      · injection e with e1 e2
        subst e1 e2
        exact h.pl.apart _ _ _ _ hq hr hd k hk1 (hv ▸ hk2)
      · exact h.pl.apart _ _ _ _ hq hq' hne k hk1 hk2
/-- A row is grown: the elder stays. -/
theorem FE.app {w W W' : World} {pp : Option Addr} {l : List Rm} {rs : List (Nat × Row)} (h : FE w W pp l rs) {c : Nat} {r r' : Row} (hr : (c, r) ∈ rs) (hO0 : W'.ownsRow w.heap.size r.ty r.sz r.v r.n r.xs) (hO : W'.ownsRow w.heap.size r'.ty r'.sz r'.v r'.n r'.xs) (ho : W'.os = W.os) (ht : W'.tape = W.tape) (hp : W'.output = W.output) (hs : W.heap.size ≤ W'.heap.size) (hk : ∀ k, k < W.heap.size → r.v.ownBlock ≠ some k → W'.heap[k]? = W.heap[k]?) (hb : ∀ k, r'.v.ownBlock = some k → r.v.ownBlock = some k ∨ W.heap.size ≤ k) (hsame : ∀ q, (c, q) ∈ rs → q = r) : FE w W' pp l ((c, r') :: rs) := by
  have hbl : ∀ k, k < w.heap.size → W'.heap[k]? = W.heap[k]? := fun k hk' => hk k (Nat.lt_of_lt_of_le hk' h.bel.size) (fun e => by have := (own_lt (h.pl.own c r hr) e).1; omega)
  have hlt : ∀ d q, (d, q) ∈ rs → ∀ k, q.v.ownBlock = some k → k < W.heap.size := fun d q hq k hk => (own_lt (h.pl.own d q hq) hk).2
  have hap : ∀ d q, (d, q) ∈ rs → d ≠ c → ∀ k, r'.v.ownBlock = some k → q.v.ownBlock ≠ some k := fun d q hq hd k hk' e => by
    rcases hb k hk' with h1 | h1
    · exact h.pl.apart _ _ _ _ hr hq (fun e => hd e.symm) k h1 e
    · have := hlt d q hq k e; omega
  refine ⟨⟨h.l.row.same hbl⟩, ⟨?_, ?_⟩, ⟨ho.trans h.bel.os, ht.trans h.bel.tape, hp.trans h.bel.output, Nat.le_trans h.bel.size hs, fun k hk' => (hbl k hk').trans (h.bel.block k hk')⟩⟩
  · intro d q hq
    cases hq with
    | head => exact hO
    | tail _ hq =>
      by_cases hd : d = c
      · subst hd
        rw [hsame q hq]
        exact hO0
      · exact own_same (h.pl.own d q hq) fun k hk' => hk k (hlt d q hq k hk') (fun e => h.pl.apart d q c r hq hr hd k hk' e)
  · intro d q d' q' hq hq' hne k hk1 hk2
    cases hq with
    | head =>
      cases hq' with
      | head => exact hne rfl
      | tail _ hq' => exact hap d' q' hq' (fun e => hne e.symm) k hk1 hk2
    | tail _ hq =>
      cases hq' with
      | head => exact hap d q hq hne k hk2 hk1
      | tail _ hq' => exact h.pl.apart d q d' q' hq hq' hne k hk1 hk2
theorem FE.z {w W : World} {pp : Option Addr} {l : List Rm} {rs : List (Nat × Row)} (h : FE w W pp l rs) {c : Nat} {p : Option Addr} {cp n : Nat} {L : List Int} (hr : (c, zR p cp n L) ∈ rs) : SlZ W p W.heap.size L := by
  have hO := h.pl.own c _ hr
  obtain rfl := zlen hO
  obtain ⟨p', c', e, s⟩ := ZOwn.sl hO
  cases e
  exact s
theorem FE.r {w W : World} {pp : Option Addr} {l : List Rm} {rs : List (Nat × Row)} (h : FE w W pp l rs) {c : Nat} {p : Option Addr} {cp n : Nat} {L : List Rm} (hr : (c, rR p cp n L) ∈ rs) : SlR W p W.heap.size L := by
  have hO := h.pl.own c _ hr
  obtain rfl := rlen hO
  obtain ⟨p', c', e, s⟩ := ROwn.sl hO
  cases e
  exact s
theorem FE.up {w W : World} {pp : Option Addr} {l : List Rm} {rs : List (Nat × Row)} (h : FE w W pp l rs) : SlR W pp W.heap.size l := h.l.mono h.bel.size
/-- One number of a row is written. -/
theorem FE.zset {w W : World} {pp : Option Addr} {l : List Rm} {rs : List (Nat × Row)} (h : FE w W pp l rs) {c g cp n j : Nat} {L : List Int} (m : Int) (hr : (c, zR (some ⟨g, 0, none⟩) cp n L) ∈ rs) : FE w (W.setCell ⟨g, j, none⟩ (.int .i64 m)) pp l (updR c (zR (some ⟨g, 0, none⟩) cp n (L.set j m)) rs) := by
  have hO := own_put (h.pl.own c _ hr) j (.int .i64 m)
  refine h.upd (r' := zR (some ⟨g, 0, none⟩) cp n (L.set j m)) hr rfl ?_ rfl rfl rfl (by simp [World.setCell]) (fun k hk hne => Below.heap_setCell _ _ _ _ (fun e => hne (by rw [e]; rfl))) mem_updR
  show World.ownsRow _ _ _ _ _ _ ((L.set j m).map iV)
  rw [List.map_set]
  exact hO
/-- One room of a row is written. -/
theorem FE.rset {w W : World} {pp : Option Addr} {l : List Rm} {rs : List (Nat × Row)} (h : FE w W pp l rs) {c g cp n j : Nat} {L : List Rm} (a b : Int) (hj : j < L.length) (hr : (c, rR (some ⟨g, 0, none⟩) cp n L) ∈ rs) : FE w ((W.setCell ⟨g, j * 2, none⟩ (.int .i64 a)).setCell ⟨g, j * 2 + 1, none⟩ (.int .i64 b)) pp l (updR c (rR (some ⟨g, 0, none⟩) cp n (L.set j ⟨a, b⟩)) rs) := by
  have hO := own_put (own_put (h.pl.own c _ hr) (j * 2) (.int .i64 a)) (j * 2 + 1) (.int .i64 b)
  refine h.upd (r' := rR (some ⟨g, 0, none⟩) cp n (L.set j ⟨a, b⟩)) hr rfl ?_ rfl rfl rfl (by simp [World.setCell]) (fun k hk hne => (Below.heap_setCell _ _ _ _ (fun e => hne (by rw [e]; rfl))).trans (Below.heap_setCell _ _ _ _ (fun e => hne (by rw [e]; rfl)))) mem_updR
  show World.ownsRow _ _ _ _ _ _ (rmCells (L.set j ⟨a, b⟩))
  rw [rmCells_set L j a b hj]
  exact hO
theorem FE.zapp {w W : World} {pp : Option Addr} {l : List Rm} {rs : List (Nat × Row)} (h : FE w W pp l rs) {c cp n : Nat} {p : Option Addr} {L : List Int} (t : Int) (hr : (c, zR p cp n L) ∈ rs) (hl : n + 1 ≤ 17592186044416) (h1s : (rs.filter fun p => p.1 == c).length = 1) :
    ∃ p' c' w', (∀ ty, (Builtin.append_ #[24, 24] ty #[.slice p n cp, .slice (some ⟨W.heap.size, 0, none⟩) 1 1]).run Try.prog (W.alloc (.cells #[.int .i64 t] 3)) = .ok (.slice p' (n + 1) c') w') ∧ FE w w' pp l ((c, zR p' c' (n + 1) (L ++ [t])) :: rs) := by
  obtain rfl := zlen (h.pl.own c _ hr)
  obtain ⟨p', c', w', hrun, h1, h2, ho, ht, hp, hs, hk, hb⟩ := z_ap2 (t := t) (⟨h.pl.own c _ hr, fun k hk => (own_lt (h.pl.own c _ hr) hk).2⟩ : IZ W w.heap.size W.heap.size (.slice p L.length cp) L) hl h.bel.size
  refine ⟨p', c', w', hrun, h.app hr h1.own ?_ ho ht hp hs hk (fun k hk' => hb k hk') (one_same h1s hr)⟩
  have := h2.own
  rw [show (L ++ [t]).length = L.length + 1 from List.length_append] at this
  exact this
theorem FE.rapp {w W : World} {pp : Option Addr} {l : List Rm} {rs : List (Nat × Row)} (h : FE w W pp l rs) {c cp n : Nat} {p : Option Addr} {L : List Rm} (a b : Int) (hr : (c, rR p cp n L) ∈ rs) (hl : n + 1 ≤ 8796093022208) (h1s : (rs.filter fun p => p.1 == c).length = 1) :
    ∃ p' c' w', (∀ ty, (Builtin.append_ #[23, 23] ty #[.slice p n cp, .slice (some ⟨W.heap.size, 0, none⟩) 1 1]).run Try.prog (W.alloc (.cells #[.int .i64 a, .int .i64 b] 35)) = .ok (.slice p' (n + 1) c') w') ∧ FE w w' pp l ((c, rR p' c' (n + 1) (L ++ [⟨a, b⟩])) :: rs) := by
  obtain rfl := rlen (h.pl.own c _ hr)
  obtain ⟨p', c', w', hrun, h1, h2, ho, ht, hp, hs, hk, hb⟩ := r_ap2 (a := a) (b := b) (⟨h.pl.own c _ hr, fun k hk => (own_lt (h.pl.own c _ hr) hk).2⟩ : IR W w.heap.size W.heap.size (.slice p L.length cp) L) hl h.bel.size
  refine ⟨p', c', w', hrun, h.app hr h1.own ?_ ho ht hp hs hk (fun k hk' => hb k hk') (one_same h1s hr)⟩
  have := h2.own
  rw [show (L ++ [(⟨a, b⟩ : Rm)]).length = L.length + 1 from List.length_append] at this
  exact this
/-- A list whose first j are marked. -/
def mkL {α : Type} (m : α) (l : List α) (j : Nat) : List α := List.replicate j m ++ l.drop j
theorem mkL_zero {α : Type} (m : α) (l : List α) : mkL m l 0 = l := rfl
theorem mkL_end {α : Type} (m : α) (l : List α) : mkL m l l.length = List.replicate l.length m := by simp [mkL]
theorem mkL_len {α : Type} (m : α) (l : List α) {j : Nat} (h : j ≤ l.length) : (mkL m l j).length = l.length := by simp [mkL]; omega
theorem mkL_set {α : Type} (m : α) (l : List α) {j : Nat} (h : j < l.length) : (mkL m l j).set j m = mkL m l (j + 1) := by
  unfold mkL
  rw [List.drop_eq_getElem_cons h, List.set_append_right _ _ (by simp), List.length_replicate, Nat.sub_self, List.set_cons_zero, List.replicate_succ', List.append_assoc]
  rfl
/-- A cell of a number that may be written. -/
theorem FE.zcell {w W : World} {pp : Option Addr} {l : List Rm} {rs : List (Nat × Row)} (h : FE w W pp l rs) {c cp n j : Nat} {p : Option Addr} {L : List Int} (hr : (c, zR p cp n L) ∈ rs) (hj : j < n) : ∃ g u, p = some ⟨g, 0, none⟩ ∧ W.cell? ⟨g, j, none⟩ = some u ∧ W.frozen? ⟨g, j, none⟩ = false := by
  have hO := h.pl.own c _ hr
  obtain ⟨g, cap, e⟩ := own_shape hO (by show 0 < n; omega)
  cases e
  have hn : n = L.length := zlen hO
  obtain ⟨⟨u, hu⟩, hf, _⟩ := own_cellw hO (o := j) (by rw [List.length_map]; omega)
  exact ⟨g, u, rfl, hu, hf j⟩
theorem FE.rcell {w W : World} {pp : Option Addr} {l : List Rm} {rs : List (Nat × Row)} (h : FE w W pp l rs) {c cp n j : Nat} {p : Option Addr} {L : List Rm} (hr : (c, rR p cp n L) ∈ rs) (hj : j < n) : ∃ g u v, p = some ⟨g, 0, none⟩ ∧ W.cell? ⟨g, j * 2, none⟩ = some u ∧ W.frozen? ⟨g, j * 2, none⟩ = false ∧ W.cell? ⟨g, j * 2 + 1, none⟩ = some v ∧ W.frozen? ⟨g, j * 2 + 1, none⟩ = false := by
  have hO := h.pl.own c _ hr
  obtain ⟨g, cap, e⟩ := own_shape hO (by show 0 < n; omega)
  cases e
  have hn : n = L.length := rlen hO
  obtain ⟨⟨u, hu⟩, hf, _⟩ := own_cellw hO (o := j * 2) (by rw [rmCells_length]; omega)
  obtain ⟨⟨v, hv⟩, _⟩ := own_cellw hO (o := j * 2 + 1) (by rw [rmCells_length]; omega)
  exact ⟨g, u, v, rfl, hu, hf _, hv, hf _⟩
end Go.Proofs.Ytjdinlgbfpkodaa
