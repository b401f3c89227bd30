/- TKq, TKb, TKf, TKm, TKh, TKi, TKk, TKo, TKl. -/
import Derived.Test.YtchfphakhmifmabGreatDoorTA1
import Derived.Laws.OwnMore
import Derived.Lib.SlBytesConst
import Derived.Test.YtchfphakhmifmabGreatDoorTA2
import Derived.Deep.RegionHeld
import Derived.Test.YtchfphakhmifmabGreatDoorTA4
import Derived.Test.YtchfphakhmifmabGreatDoorTPl
namespace Go.Proofs.YtchfphakhmifmabGreatDoor
open Go.ChangeShapes Go.WideShapes Go.ChangeAt Go.RowKit Go.Lib

/-- Some more behind a row of one's own; the row itself is as it was. -/
theorem ap2 {W : World} {base : Nat} {t e : TypeId} {z : Value} {size bytes n m : Nat} {v : Value} {xs : List Value} (ht : Tryz.prog.underlying t = some (.slice e)) (hi : (Tryz.prog.info? e).map (fun i => (i.zero, i.size, i.bytes)) = some (some z, size, bytes)) (hz : z.cells.size = size) (hsz : 0 < size)
    (own : W.ownsRow base e size v n xs) {G : Nat} {cs : Array Value} {fr : Nat × Nat} (hG : W.heap[G]? = some (.cells cs e fr)) (hcs : cs.toList.length = m * size) (h1 : ∀ u ∈ cs.toList, u.oneCell' = true) (hm : 0 < m) (hn : n + m ≤ 1000000001) (hb : bytes ≤ 100) (hbase : base ≤ W.heap.size) :
    ∃ v' w', (∀ ty, (Builtin.append_ #[t, t] ty #[v, .slice (some ⟨G, 0, none⟩) m m]).run Tryz.prog W = .ok v' w') ∧ w'.ownsRow base e size v' (n + m) (xs ++ cs.toList) ∧ w'.ownsRow base e size v n xs ∧ W.grownBy w' v.ownBlock ∧ (v'.ownBlock = v.ownBlock ∨ v'.ownBlock = some W.heap.size) := by
  obtain ⟨i0, hi0, hz0⟩ := Option.map_eq_some_iff.1 hi
  simp only [Prod.mk.injEq] at hz0
  have hbb : (n + m) * bytes ≤ 140737488355328 := Nat.le_trans (Nat.mul_le_mul hn hb) (by decide)
  have hr := fun ty => run_append_own_at (P := Tryz.prog) W base t ty e i0 z size bytes ht hi0 hz0.1 hz0.2.1 hz0.2.2 hz hsz v n xs own ⟨G, 0, none⟩ m m cs.toList hcs (World.news_of_block hG) h1 (by simp only [maxLen]; omega) hbb hbase
  obtain ⟨v', w', q1, q2, q3, _, q4⟩ := hr 0
  refine ⟨v', w', fun ty => ?_, q2, ?_, q3, q4⟩
  · have e : (Builtin.append_ #[t, t] ty #[v, .slice (some ⟨G, 0, none⟩) m m]) = (Builtin.append_ #[t, t] 0 #[v, .slice (some ⟨G, 0, none⟩) m m]) := rfl
    rw [e]
    exact q1
  · rcases own.2 with ⟨rfl, h0⟩ | ⟨g, cap, cur, e1, hbg, hg, hnc, hmx, hs', hx⟩
    · exact ⟨own.1, .inl ⟨rfl, h0⟩⟩
    · subst e1
      have hS : Src Tryz.prog i0.size t (.slice (some ⟨G, 0, none⟩) m m) m cs.toList W := by
        rw [hz0.2.1]
        exact Src.ofSlice (P := Tryz.prog) W ht ⟨G, 0, none⟩ m m cs.toList hcs (World.news_of_block hG) h1
      by_cases hroom : n + m ≤ cap
      · have hr2 := run_append_room_src (P := Tryz.prog) W t t 0 e i0 ht hi0 g 0 n cap (.slice (some ⟨G, 0, none⟩) m m) m cs.toList hS hroom
          (fun j hj => by
            rw [hz0.2.1, cell_of_row W g _ cur _ (0, 0) hg]
            rw [hcs] at hj
            have h2 : (n + m) * size ≤ cap * size := Nat.mul_le_mul_right _ hroom
            rw [Nat.add_mul] at h2
            rw [Array.getElem?_eq_getElem (by omega)]
            rfl)
          (fun j hj => by
            simp only [World.frozen?, hg]
            simp)
        rw [hr2] at q1
        injection q1 with e1 e2
        rw [← e1] at q2
        have hf := own_front q2 (show n ≤ n + m by omega)
        rw [List.take_append_of_le_length (by rw [own.1]; exact Nat.le_refl _), List.take_of_length_le (by rw [own.1]; exact Nat.le_refl _)] at hf
        exact hf
      · have hold : (Builtin.firstCells i0.size n (.slice (some ⟨g, 0, none⟩) n cap)).run Tryz.prog W.drew = .ok xs.toArray W.drew := by
          refine run_firstCells_some W.drew i0.size n ⟨g, 0, none⟩ n cap xs (by rw [hz0.2.1]; exact own.1) (fun j u hu => ?_)
          have := World.ownsRow.cells own (g := g) rfl j u hu
          simpa using this
        have hr2 := run_append_grow_src (P := Tryz.prog) W t t 0 e i0 z ht hi0 hz0.1 (some ⟨g, 0, none⟩) n cap xs hold (.slice (some ⟨G, 0, none⟩) m m) m cs.toList hS (by omega) (by omega) (by rw [hz0.2.2]; exact growslice_fits (by omega) hbb)
        rw [hr2] at q1
        injection q1 with e1 e2
        refine ownSame own fun k hk => ?_
        rw [← e2]
        exact Below.heap_alloc W.drew _ k (ownLt own hk).2
/-- A buffer, or a constant text's bytes with the mark that they bear. -/
def BufM (w : World) (B : Nat) (v : Value) (L : List Nat) : Prop := Buf w B v L ∨ ∃ g mk, v = .slice (some ⟨g, 0, none⟩) L.length L.length ∧ B ≤ g ∧ w.heap[g]? = some (.cells (L.map cU).toArray 5 mk)
theorem BufM.below {w w' : World} {B : Nat} {v : Value} {L : List Nat} (h : BufM w B v L) (hb : Below w.heap.size w w') : BufM w' B v L := by
  rcases h with h | ⟨g, mk, e, hB, hg⟩
  · exact .inl (h.below hb)
  · exact .inr ⟨g, mk, e, hB, (hb.block g (Array.getElem?_eq_some_iff.1 hg).1).trans hg⟩
theorem BufM.lit (w : World) (B : Nat) (L : List Nat) (C : Array Value) (hC : C = (L.map cU).toArray) (n : Nat) (hn : n = L.length) (mk : Nat × Nat) (hB : B ≤ w.heap.size) : BufM (w.alloc (.cells C 5 mk)) B (.slice (some ⟨w.heap.size, 0, none⟩) n n) L := by
  subst hC hn
  refine .inr ⟨w.heap.size, mk, rfl, hB, ?_⟩
  show (w.heap.push _)[w.heap.size]? = _
  rw [Array.getElem?_push, if_pos rfl]
theorem BufM.cells {w : World} {g : Nat} {L : List Nat} {mk : Nat × Nat} (hg : w.heap[g]? = some (.cells (L.map cU).toArray 5 mk)) : ∀ j u, (L.map cU)[j]? = some u → w.cell? ((⟨g, 0, none⟩ : Addr).add j) = some u := by
  intro j u hu
  have hadd : (⟨g, 0, none⟩ : Addr).add j = ⟨g, j, none⟩ := by unfold Addr.add; split <;> simp_all
  rw [hadd, cell_of_row w g j _ _ mk hg]
  simpa using hu
theorem BufM.conv {w : World} {B : Nat} {v : Value} {L : List Nat} (h : BufM w B v L) : (convert 59 9 v).run Tryz.prog w = .ok (.string (sOf L)) w := by
  rcases h with h | ⟨g, mk, rfl, hB, hg⟩
  · exact h.conv
  · have := run_convert_bytes_arg w 59 5 Tryz.underlying59 Tryz.underlying5 g 0 L.length L.length (L.map Int.ofNat) (by simp) (fun i hi => by
      have hx : (L.map cU)[i]? = some (cU L[i]) := by simp [hi]
      have := BufM.cells hg i _ hx
      have hadd : (⟨g, 0, none⟩ : Addr).add i = ⟨g, i, none⟩ := by unfold Addr.add; split <;> simp_all
      rw [hadd] at this
      rw [Nat.zero_add, this]
      simp [cU, List.getD, hi]) 9 Tryz.underlying9
    have e : strOfNums (L.map Int.ofNat) = sOf L := by
      unfold strOfNums sOf
      simp [Function.comp_def]
    rw [this, e]
/-- One more byte. -/
theorem bufm_one {w : World} {B : Nat} {v : Value} {L : List Nat} (h : BufM w B v L) (c : Nat) (hl : L.length ≤ 1000) (hB : B ≤ w.heap.size) :
    ∃ v' w', (∀ ty, (Builtin.append_ #[59, 59] ty #[v, .slice (some ⟨w.heap.size, 0, none⟩) 1 1]).run Tryz.prog (w.alloc (.cells #[.int .u8 (c : Int)] 5)) = .ok v' w') ∧ BufM w' B v' (L ++ [c]) ∧ Below B w w' := by
  have hb := bel1 w (.cells #[.int .u8 (c : Int)] 5)
  have hG : (w.alloc (.cells #[.int .u8 (c : Int)] 5)).heap[w.heap.size]? = some (.cells #[.int .u8 (c : Int)] 5) := by
    show (w.heap.push _)[w.heap.size]? = _
    rw [Array.getElem?_push, if_pos rfl]
  have S := src_lit (w.alloc (.cells #[.int .u8 (c : Int)] 5)) w.heap.size 1 1 [c] rfl hG
  rcases h with h | ⟨g, mk, rfl, hBg, hg⟩
  · obtain ⟨v', w', h1, h2, h3, h4, h5⟩ := tbufAppend (M := [c]) (h.below hb) S (by simp; omega) (Nat.le_trans hB hb.size)
    exact ⟨v', w', h1, .inl h2, (hb.mono hB).trans h3⟩
  · obtain ⟨i, hi, hz, hsz, hby⟩ := info5
    have S' : Src Tryz.prog i.size 59 (.slice (some ⟨w.heap.size, 0, none⟩) 1 1) 1 ([c].map cU) (w.alloc (.cells #[.int .u8 (c : Int)] 5)) := by rw [hsz]; exact S
    have hg1 := (hb.block g (Array.getElem?_eq_some_iff.1 hg).1).trans hg
    have hold : (Builtin.firstCells i.size L.length (.slice (some ⟨g, 0, none⟩) L.length L.length)).run Tryz.prog (w.alloc (.cells #[.int .u8 (c : Int)] 5)).drew = .ok (L.map cU).toArray (w.alloc (.cells #[.int .u8 (c : Int)] 5)).drew :=
      run_firstCells_some _ i.size L.length ⟨g, 0, none⟩ L.length L.length _ (by rw [List.length_map, hsz, Nat.mul_one]) (BufM.cells hg1)
    have hfit : Builtin.nextslicecap (L.length + 1) L.length * i.bytes ≤ 281474976710656 := by
      have := growslice_fits (bytes := 1) (show L.length < L.length + 1 by omega) (by omega)
      rw [hby]; exact this
    have ge := grownCap_ge (w.alloc (.cells #[.int .u8 (c : Int)] 5)) (L.length + 1) L.length 5
    have le := grownCap_le_maxLen (w.alloc (.cells #[.int .u8 (c : Int)] 5)) (L.length + 1) L.length 5 (by unfold maxLen; omega)
    refine ⟨_, _, fun ty => run_append_grow_src (w.alloc (.cells #[.int .u8 (c : Int)] 5)) 59 59 ty 5 i (.int .u8 0) Tryz.underlying59 hi hz (some ⟨g, 0, none⟩) L.length L.length _ hold _ 1 _ S' (by omega) (by omega) hfit, .inl ⟨?_, ?_⟩, (hb.mono hB).drew.alloc (Nat.le_trans hB hb.size) _⟩
    · rw [List.length_map, List.length_append, Nat.mul_one]
    · refine .inr ⟨(w.alloc (.cells #[.int .u8 (c : Int)] 5)).heap.size, _, _, by rw [List.length_append]; rfl, Nat.le_trans hB hb.size, heap_alloc_new (w.alloc (.cells #[.int .u8 (c : Int)] 5)).drew _, by rw [List.length_append]; exact ge, le, ?_, ?_⟩
      · simp only [Array.size_append, List.size_toArray, size_zeroCells]
        rw [List.length_append, List.length_map, List.length_map, show (Value.int .u8 0).cells.size = 1 from rfl, List.length_singleton]
        omega
      · rw [Nat.mul_one, Array.toList_append, List.take_append_of_le_length (by simp), List.map_append, List.take_of_length_le (by simp)]
end Go.Proofs.YtchfphakhmifmabGreatDoor
namespace Go.Proofs.YtchfphakhmifmabGreatDoor
open Go.ChangeShapes Go.WideShapes Go.ChangeAt Go.RowKit Go.Lib

/-- The digits of a number, the last ahead. -/
def digs (n : Nat) : List Nat := if h : 0 < n then (48 + n % 10) :: digs (n / 10) else []
termination_by n
decreasing_by omega
theorem digs_pos {n : Nat} (h : 0 < n) : digs n = (48 + n % 10) :: digs (n / 10) := by rw [digs, dif_pos h]
theorem digs_zero : digs 0 = [] := by rw [digs, dif_neg (by omega)]
theorem digs_len : ∀ (k n : Nat), n < 10 ^ k → (digs n).length ≤ k
  | 0, n, h => by
    obtain rfl : n = 0 := by simpa using h
    rw [digs_zero]; exact Nat.le_refl _
  | k + 1, n, h => by
    rcases Nat.eq_zero_or_pos n with rfl | hp
    · rw [digs_zero]; exact Nat.zero_le _
    · rw [digs_pos hp, List.length_cons]
      have := digs_len k (n / 10) (by rw [Nat.pow_succ] at h; omega)
      omega
def markL (n : Nat) : List Nat := [109, 97, 114, 107, 32] ++ digs n
def mkS (n : Nat) : ByteArray := sOf (markL n)
theorem kcell_lt {w : World} {a : Addr} {v : Value} (h : w.cell? a = some v) : a.block < w.heap.size := by
  rcases Nat.lt_or_ge a.block w.heap.size with h1 | h1
  · exact h1
  · simp [World.cell?, Array.getElem?_eq_none h1] at h
/-- A list that bears a mark, and lies where none of the rows lies. -/
def Bears (W : World) (bot : Nat) (f : Nat → Rw) (z o n : Nat) (s : Value) : Prop :=
  ∃ p len cap, s = .slice p len cap ∧ len ≤ 1000000 ∧ ∀ j, j < len → ∃ g, p = some ⟨g, 0, none⟩ ∧ bot ≤ g ∧ (∀ c, (f c).v.ownBlock ≠ some g) ∧ W.cell? ⟨g, j * z + o, none⟩ = some (.string (mkS n))
theorem Bears.go {W W' : World} {bot : Nat} {f f' : Nat → Rw} {z o n : Nat} {s : Value} (h : Bears W bot f z o n s) (hk : ∀ k, bot ≤ k → k < W.heap.size → (∀ c, (f c).v.ownBlock ≠ some k) → W'.heap[k]? = W.heap[k]? ∧ ∀ c, (f' c).v.ownBlock ≠ some k) : Bears W' bot f' z o n s := by
  obtain ⟨p, len, cap, e, hl, h⟩ := h
  refine ⟨p, len, cap, e, hl, fun j hj => ?_⟩
  obtain ⟨g, hp, hb, hf, hc⟩ := h j hj
  have hg : g < W.heap.size := kcell_lt (a := ⟨g, _, none⟩) hc
  obtain ⟨h1, h2⟩ := hk g hb hg hf
  exact ⟨g, hp, hb, h2, (World.cell?_of_block (a := ⟨g, _, none⟩) h1).trans hc⟩
theorem Bears.own {W : World} {base bot : Nat} {ty : TypeId} {z n o m : Nat} {v : Value} {xs : List Value} {f : Nat → Rw} (own : W.ownsRow base ty z v n xs) (hx : ∀ j, j < n → xs[j * z + o]? = some (.string (mkS m))) (hf : ∀ k, v.ownBlock = some k → ∀ c, (f c).v.ownBlock ≠ some k) (hb : bot ≤ base) (hn : n ≤ 1000000) : Bears W bot f z o m v := by
  rcases Nat.eq_zero_or_pos n with rfl | hp
  · obtain ⟨p, c, e⟩ := own_sl own
    exact ⟨p, 0, c, e, hn, fun j hj => by omega⟩
  · obtain ⟨g, cap, rfl⟩ := own_shape own hp
    refine ⟨_, _, _, rfl, hn, fun j hj => ?_⟩
    obtain ⟨hc, _, hg, _⟩ := own_get own (hx j hj)
    exact ⟨g, rfl, by omega, hf g rfl, hc⟩
/-- The book: what it holds, each list with its mark; rows of one's own beside it. -/
structure BK (W : World) (B : Nat) (f : Nat → Rw) (E A : List Value) : Prop where
  b : W.heap[B]? = some (.cells #[(f 0).v, (f 1).v] 45 (0, 0))
  pf : PF W (B + 1) f
  f0 : f 0 = ⟨24, 1, (f 0).v, E.length, E⟩
  f1 : f 1 = ⟨30, 1, (f 1).v, A.length, A⟩
  e : ∀ i s, E[i]? = some s → Bears W (B + 1) f 5 1 (i / 2) s
  a : ∀ i s, A[i]? = some s → Bears W (B + 1) f 3 0 (i / 2) s
  eE : E.length % 2 = 0
  eA : A.length % 2 = 0
theorem BK.hB {W : World} {B : Nat} {f : Nat → Rw} {E A : List Value} (h : BK W B f E A) : B < W.heap.size := (Array.getElem?_eq_some_iff.1 h.b).1
theorem BK.below {W W' : World} {B : Nat} {f : Nat → Rw} {E A : List Value} (h : BK W B f E A) (hb : Below W.heap.size W W') : BK W' B f E A :=
  ⟨(hb.block B h.hB).trans h.b, h.pf.keep hb, h.f0, h.f1, fun i s hs => (h.e i s hs).go fun k _ hk hf => ⟨hb.block k hk, hf⟩, fun i s hs => (h.a i s hs).go fun k _ hk hf => ⟨hb.block k hk, hf⟩, h.eE, h.eA⟩
theorem up_free {W : World} {f : Nat → Rw} {c : Nat} {r : Rw} (hv : ∀ k, r.v.ownBlock = some k → (f c).v.ownBlock = some k ∨ W.heap.size ≤ k) {k : Nat} (hk : k < W.heap.size) (hf : ∀ c, (f c).v.ownBlock ≠ some k) : ∀ d, (upF f c r d).v.ownBlock ≠ some k := by
  intro d e
  by_cases hd : d = c
  · subst hd
    rw [upF_same] at e
    rcases hv k e with h1 | h1
    · exact hf d h1
    · omega
  · rw [upF_ne _ _ _ hd] at e
    exact hf d e
/-- One of the rows beside the book is another now. -/
theorem BK.upd {W W' : World} {B : Nat} {f : Nat → Rw} {E A : List Value} (h : BK W B f E A) {c : Nat} (hc : 2 ≤ c) {r : Rw} (hO : r.own W' (B + 1)) (hv : ∀ k, r.v.ownBlock = some k → (f c).v.ownBlock = some k ∨ W.heap.size ≤ k) (hk : ∀ k, k < W.heap.size → (f c).v.ownBlock ≠ some k → W'.heap[k]? = W.heap[k]?) : BK W' B (upF f c r) E A := by
  have e0 : upF f c r 0 = f 0 := upF_ne _ _ _ (by omega)
  have e1 : upF f c r 1 = f 1 := upF_ne _ _ _ (by omega)
  refine ⟨?_, h.pf.upd c hO hv fun k _ h1 h2 => hk k h1 h2, by rw [e0]; exact h.f0, by rw [e1]; exact h.f1, fun i s hs => (h.e i s hs).go fun k _ h1 hf => ⟨hk k h1 (hf c), up_free hv h1 hf⟩, fun i s hs => (h.a i s hs).go fun k _ h1 hf => ⟨hk k h1 (hf c), up_free hv h1 hf⟩, h.eE, h.eA⟩
  rw [e0, e1]
  refine (hk B h.hB fun e => ?_).trans h.b
  have := (h.pf.lt c e).1
  omega
theorem heap_setAt {W : World} {g o : Nat} {cs : Array Value} {t : TypeId} (h : W.heap[g]? = some (.cells cs t (0, 0))) (u : Value) : (W.setCell ⟨g, o, none⟩ u).heap[g]? = some (.cells (cs.setIfInBounds o u) t (0, 0)) := by
  have e : (W.setCell ⟨g, o, none⟩ u).heap = W.heap.modify g (fun x => match x with
    | .cells cs t f => .cells (cs.setIfInBounds o u) t f
    | x => x) := rfl
  rw [e, Array.getElem?_modify, if_pos rfl, h]
  rfl
/-- Two lists more of attributes. -/
theorem BK.addA {W W1 : World} {B : Nat} {f : Nat → Rw} {E A : List Value} (h : BK W B f E A) {v' s1 s2 : Value} (hO : W1.ownsRow (B + 1) 30 1 v' (A.length + 2) (A ++ [s1, s2])) (hg : W.grownBy W1 (f 1).v.ownBlock) (hv : v'.ownBlock = (f 1).v.ownBlock ∨ v'.ownBlock = some W.heap.size)
    (b1 : Bears W (B + 1) f 3 0 (A.length / 2) s1) (b2 : Bears W (B + 1) f 3 0 (A.length / 2) s2) : BK (W1.setCell ⟨B, 1, none⟩ v') B (upF f 1 ⟨30, 1, v', A.length + 2, A ++ [s1, s2]⟩) E (A ++ [s1, s2]) := by
  have hv' : ∀ k, v'.ownBlock = some k → (f 1).v.ownBlock = some k ∨ W.heap.size ≤ k := fun k hk => by
    rcases hv with e | e
    · exact .inl (e ▸ hk)
    · rw [e] at hk; injection hk with hk; exact .inr (by omega)
  have hblk : ∀ k, k < W.heap.size → (f 1).v.ownBlock ≠ some k → W1.heap[k]? = W.heap[k]? := fun k hk hne => hg.block k hk fun e => hne e.symm
  have hP : PF W1 (B + 1) (upF f 1 ⟨30, 1, v', A.length + 2, A ++ [s1, s2]⟩) := h.pf.upd 1 hO hv' fun k _ h1 h2 => hblk k h1 h2
  have tw : ∀ {z o n : Nat} {s : Value}, Bears W (B + 1) f z o n s → Bears (W1.setCell ⟨B, 1, none⟩ v') (B + 1) (upF f 1 ⟨30, 1, v', A.length + 2, A ++ [s1, s2]⟩) z o n s := fun hb => hb.go fun k h0 h1 hf => ⟨(Below.heap_setCell _ _ _ _ (show k ≠ B by omega)).trans (hblk k h1 (hf 1)), up_free hv' h1 hf⟩
  refine ⟨?_, hP.same fun k h1 _ => Below.heap_setCell _ _ _ _ (show k ≠ B by omega), by rw [upF_ne _ _ _ (by decide)]; exact h.f0, by rw [upF_same, List.length_append]; rfl, fun i s hs => tw (h.e i s hs), fun i s hs => ?_, h.eE, by have := h.eA; rw [List.length_append]; show (A.length + 2) % 2 = 0; omega⟩
  · have hb : W1.heap[B]? = some (.cells #[(f 0).v, (f 1).v] 45 (0, 0)) := (hblk B h.hB fun e => by have := (h.pf.lt 1 e).1; omega).trans h.b
    rw [heap_setAt hb, upF_same, upF_ne _ _ _ (by decide)]
    rfl
  · have hev := h.eA
    by_cases h1 : i < A.length
    · rw [List.getElem?_append_left h1] at hs
      exact tw (h.a i s hs)
    · rw [List.getElem?_append_right (by omega)] at hs
      have hl : i - A.length < 2 := by have := (List.getElem?_eq_some_iff.1 hs).1; simpa using this
      have hi2 : i / 2 = A.length / 2 := by omega
      rw [hi2]
      have hc : i - A.length = 0 ∨ i - A.length = 1 := by omega
      rcases hc with e | e
      · rw [e] at hs; cases hs; exact tw b1
      · rw [e] at hs; cases hs; exact tw b2
/-- Two lists more of elements. -/
theorem BK.addE {W W1 : World} {B : Nat} {f : Nat → Rw} {E A : List Value} (h : BK W B f E A) {v' s1 s2 : Value} (hO : W1.ownsRow (B + 1) 24 1 v' (E.length + 2) (E ++ [s1, s2])) (hg : W.grownBy W1 (f 0).v.ownBlock) (hv : v'.ownBlock = (f 0).v.ownBlock ∨ v'.ownBlock = some W.heap.size)
    (b1 : Bears W (B + 1) f 5 1 (E.length / 2) s1) (b2 : Bears W (B + 1) f 5 1 (E.length / 2) s2) : BK (W1.setCell ⟨B, 0, none⟩ v') B (upF f 0 ⟨24, 1, v', E.length + 2, E ++ [s1, s2]⟩) (E ++ [s1, s2]) A := by
  have hv' : ∀ k, v'.ownBlock = some k → (f 0).v.ownBlock = some k ∨ W.heap.size ≤ k := fun k hk => by
    rcases hv with e | e
    · exact .inl (e ▸ hk)
    · rw [e] at hk; injection hk with hk; exact .inr (by omega)
  have hblk : ∀ k, k < W.heap.size → (f 0).v.ownBlock ≠ some k → W1.heap[k]? = W.heap[k]? := fun k hk hne => hg.block k hk fun e => hne e.symm
  have hP : PF W1 (B + 1) (upF f 0 ⟨24, 1, v', E.length + 2, E ++ [s1, s2]⟩) := h.pf.upd 0 hO hv' fun k _ h1 h2 => hblk k h1 h2
  have tw : ∀ {z o n : Nat} {s : Value}, Bears W (B + 1) f z o n s → Bears (W1.setCell ⟨B, 0, none⟩ v') (B + 1) (upF f 0 ⟨24, 1, v', E.length + 2, E ++ [s1, s2]⟩) z o n s := fun hb => hb.go fun k h0 h1 hf => ⟨(Below.heap_setCell _ _ _ _ (show k ≠ B by omega)).trans (hblk k h1 (hf 0)), up_free hv' h1 hf⟩
  refine ⟨?_, hP.same fun k h1 _ => Below.heap_setCell _ _ _ _ (show k ≠ B by omega), by rw [upF_same, List.length_append]; rfl, by rw [upF_ne _ _ _ (by decide)]; exact h.f1, fun i s hs => ?_, fun i s hs => tw (h.a i s hs), by have := h.eE; rw [List.length_append]; show (E.length + 2) % 2 = 0; omega, h.eA⟩
  · have hb : W1.heap[B]? = some (.cells #[(f 0).v, (f 1).v] 45 (0, 0)) := (hblk B h.hB fun e => by have := (h.pf.lt 0 e).1; omega).trans h.b
    rw [heap_setAt hb, upF_same, upF_ne _ _ _ (by decide)]
    rfl
  · have hev := h.eE
    by_cases h1 : i < E.length
    · rw [List.getElem?_append_left h1] at hs
      exact tw (h.e i s hs)
    · rw [List.getElem?_append_right (by omega)] at hs
      have hl : i - E.length < 2 := by have := (List.getElem?_eq_some_iff.1 hs).1; simpa using this
      have hi2 : i / 2 = E.length / 2 := by omega
      rw [hi2]
      have hc : i - E.length = 0 ∨ i - E.length = 1 := by omega
      rcases hc with e | e
      · rw [e] at hs; cases hs; exact tw b1
      · rw [e] at hs; cases hs; exact tw b2
/-- A book that is new. -/
def nilF : Nat → Rw := fun c => if c = 0 then ⟨24, 1, .slice none 0 0, 0, []⟩ else ⟨30, 1, .slice none 0 0, 0, []⟩
theorem BK.new (w : World) : BK (w.alloc (.cells #[.slice none 0 0, .slice none 0 0] 45)) w.heap.size nilF [] [] := by
  refine ⟨?_, ⟨fun c => ?_, fun c c' _ k hk => ?_⟩, rfl, rfl, fun i s hs => (by cases hs), fun i s hs => (by cases hs), rfl, rfl⟩
  · show (w.heap.push _)[w.heap.size]? = _
    rw [Array.getElem?_push, if_pos rfl]
    rfl
  · unfold Rw.own nilF
    by_cases h : c = 0
    · rw [if_pos h]; exact World.ownsRow_nil _ _ _ _
    · rw [if_neg h]; exact World.ownsRow_nil _ _ _ _
  · unfold nilF at hk
    by_cases h : c = 0
    · rw [if_pos h] at hk; cases hk
    · rw [if_neg h] at hk; cases hk
theorem own_mono {W : World} {base base' : Nat} {e : TypeId} {s : Nat} {v : Value} {n : Nat} {xs : List Value} (h : W.ownsRow base e s v n xs) (hB : base' ≤ base) : W.ownsRow base' e s v n xs := by
  refine ⟨h.1, ?_⟩
  rcases h.2 with h0 | ⟨g, cap, cur, e, hb, r⟩
  · exact .inl h0
  · exact .inr ⟨g, cap, cur, e, by omega, r⟩
/-- What Parse answers lies beside the book. -/
def besF (f f' : Nat → Rw) : Nat → Rw := fun c => if c < 2 then f c else if c = 2 then f' 1 else f' (3 + 2 * (c - 3))
theorem BK.parsed {W W' : World} {B bot : Nat} {f f' : Nat → Rw} {E A : List Value} {vA vE : Value} {sx : List Opn} {ex : List Elx} (h : BK W B f E A) (hb : Below W.heap.size W W') (hbot : W.heap.size ≤ bot) (hT : TR W' bot vA vE f' sx ex) :
    BK W' B (besF f f') E A ∧ besF f f' 2 = elR vE ex ∧ ∀ i x, ex[i]? = some x → besF f f' (3 + i) = atR x := by
  have hB := h.hB
  have lo : ∀ c, c < 2 → besF f f' c = f c := fun c hc => if_pos hc
  have hi : ∀ c, 2 ≤ c → ∃ d, besF f f' c = f' d ∧ d = (if c = 2 then 1 else 3 + 2 * (c - 3)) := fun c hc => by
    unfold besF
    rw [if_neg (by omega)]
    by_cases h2 : c = 2
    · exact ⟨1, by rw [if_pos h2], by rw [if_pos h2]⟩
    · exact ⟨_, by rw [if_neg h2], by rw [if_neg h2]⟩
  have e0 := lo 0 (by decide)
  have e1 := lo 1 (by decide)
  have free : ∀ k, k < W.heap.size → (∀ c, (f c).v.ownBlock ≠ some k) → ∀ c, (besF f f' c).v.ownBlock ≠ some k := fun k hk hf c => by
    by_cases hc : c < 2
    · rw [lo c hc]; exact hf c
    · obtain ⟨d, e, _⟩ := hi c (by omega)
      rw [e]
      intro h1
      have := (hT.pf.lt d h1).1
      omega
  refine ⟨⟨?_, ⟨fun c => ?_, fun c c' hne k h1 h2 => ?_⟩, by rw [e0]; exact h.f0, by rw [e1]; exact h.f1, fun i s hs => (h.e i s hs).go fun k _ hk hf => ⟨hb.block k hk, free k hk hf⟩, fun i s hs => (h.a i s hs).go fun k _ hk hf => ⟨hb.block k hk, free k hk hf⟩, h.eE, h.eA⟩, ?_, fun i x hx => ?_⟩
  · rw [e0, e1]
    exact (hb.block B hB).trans h.b
  · by_cases hc : c < 2
    · rw [lo c hc]; exact (h.pf.keep hb).own c
    · obtain ⟨d, e, _⟩ := hi c (by omega)
      rw [e]
      exact own_mono (hT.pf.own d) (by omega)
  · by_cases hc : c < 2
    · rw [lo c hc] at h1
      have hk := (h.pf.lt c h1).2
      by_cases hc' : c' < 2
      · rw [lo c' hc'] at h2
        exact h.pf.apart c c' hne k h1 h2
      · obtain ⟨d', e', _⟩ := hi c' (by omega)
        rw [e'] at h2
        have := (hT.pf.lt d' h2).1
        omega
    · obtain ⟨d, e, hd⟩ := hi c (by omega)
      rw [e] at h1
      have hk := (hT.pf.lt d h1).1
      by_cases hc' : c' < 2
      · rw [lo c' hc'] at h2
        have := (h.pf.lt c' h2).2
        omega
      · obtain ⟨d', e', hd'⟩ := hi c' (by omega)
        rw [e'] at h2
        refine hT.pf.apart d d' ?_ k h1 h2
        rw [hd, hd']
        split <;> split <;> omega
  · rw [← hT.f1]
    rfl
  · rw [← hT.fa i x hx]
    unfold besF
    rw [if_neg (by omega), if_neg (by omega)]
    congr 1
    omega
/-- A list whose first j are changed. -/
def fm {α : Type} (g : α → α) (j : Nat) (l : List α) : List α := (l.take j).map g ++ l.drop j
theorem fm_zero {α : Type} (g : α → α) (l : List α) : fm g 0 l = l := by simp [fm]
theorem fm_all {α : Type} (g : α → α) (l : List α) : fm g l.length l = l.map g := by simp [fm]
theorem fm_len {α : Type} (g : α → α) (j : Nat) (l : List α) : (fm g j l).length = l.length := by simp [fm]; omega
theorem fm_get {α : Type} (g : α → α) {j i : Nat} (l : List α) (h : j ≤ i) : (fm g j l)[i]? = l[i]? := by
  unfold fm
  by_cases hj : j ≤ l.length
  · rw [List.getElem?_append_right (by simp; omega), List.getElem?_drop]
    congr 1
    simp; omega
  · rw [List.getElem?_eq_none (by simp; omega), List.getElem?_eq_none (by omega)]
theorem fm_succ {α : Type} (g : α → α) {j : Nat} {l : List α} {x : α} (h : l[j]? = some x) : fm g (j + 1) l = (fm g j l).set j (g x) := by
  have hl := (List.getElem?_eq_some_iff.1 h).1
  unfold fm
  rw [List.take_add_one, h, List.set_append_right _ _ (by simp; omega)]
  have hd : l.drop j = x :: l.drop (j + 1) := by
    rw [List.drop_eq_getElem_cons hl, (List.getElem?_eq_some_iff.1 h).2]
  rw [hd]
  simp [Nat.min_eq_left (Nat.le_of_lt hl)]
def setA (k : Nat) (t : Att) : Att := ⟨mkS k, t.vl, t.p⟩
def setE (m : Nat) (x : Elx) : Elx := ⟨⟨x.e.d, mkS m, x.e.ats, x.e.tx, x.e.p⟩, x.av⟩
theorem att_set {k j : Nat} {al : List Att} {t : Att} (h : al[j]? = some t) : attCells (fm (setA k) (j + 1) al) = (attCells (fm (setA k) j al)).set (j * 3) (.string (mkS k)) := by
  rw [fm_succ _ h]
  exact flat_set attC 3 (fun _ => rfl) _ j t (setA k t) 0 _ ((fm_get _ al (Nat.le_refl _)).trans h) (by decide) rfl
theorem els_set {m i : Nat} {ex : List Elx} {x : Elx} (h : ex[i]? = some x) : (fm (setE m) (i + 1) ex).flatMap elC = ((fm (setE m) i ex).flatMap elC).set (i * 5 + 1) (.string (mkS m)) := by
  rw [fm_succ _ h]
  exact flat_set elC 5 elC_len _ i x (setE m x) 1 _ ((fm_get _ ex (Nat.le_refl _)).trans h) (by decide) rfl
theorem att_mark {k : Nat} {al : List Att} {j : Nat} (h : j < al.length) (rest : List Value) : (attCells (al.map (setA k)) ++ rest)[j * 3 + 0]? = some (.string (mkS k)) := by
  have hg : (al.map (setA k))[j]? = some (setA k al[j]) := by simp [h]
  have := flat_get attC 3 (fun _ => rfl) (al.map (setA k)) j _ hg 0 (by decide)
  rw [List.getElem?_append_left]
  · exact this
  · exact (List.getElem?_eq_some_iff.1 this).1
theorem els_mark {m : Nat} {ex : List Elx} {j : Nat} (h : j < ex.length) (rest : List Value) : ((ex.map (setE m)).flatMap elC ++ rest)[j * 5 + 1]? = some (.string (mkS m)) := by
  have hg : (ex.map (setE m))[j]? = some (setE m ex[j]) := by simp [h]
  have := flat_get elC 5 elC_len (ex.map (setE m)) j _ hg 1 (by decide)
  rw [List.getElem?_append_left]
  · exact this
  · exact (List.getElem?_eq_some_iff.1 this).1
end Go.Proofs.YtchfphakhmifmabGreatDoor
namespace Go.Proofs.YtchfphakhmifmabGreatDoor
open Go.ChangeShapes Go.WideShapes Go.ChangeAt Go.RowKit Go.Lib

abbrev litA (k : Nat) : Obj := .cells #[.string (mkS k), .string ⟨#[]⟩, .int .i64 0] 54
abbrev litE (m : Nat) : Obj := .cells #[.int .i64 0, .string (mkS m), .slice none 0 0, .string ⟨#[]⟩, .int .i64 0] 32
theorem infoLA : (Tryz.prog.info? 30).map (fun i => (i.zero, i.size, i.bytes)) = some (some (.slice none 0 0), 1, 24) := by kernel_rfl
theorem infoLE : (Tryz.prog.info? 24).map (fun i => (i.zero, i.size, i.bytes)) = some (some (.slice none 0 0), 1, 24) := by kernel_rfl
/-- A cell of a row beside the book is written. -/
theorem BK.put {W : World} {B : Nat} {F : Nat → Rw} {E A : List Value} {c : Nat} (h : BK W B F E A) (hc : 2 ≤ c) {ty : TypeId} {sz g n cap : Nat} {xs : List Value} (hr : F c = ⟨ty, sz, .slice (some ⟨g, 0, none⟩) n cap, n, xs⟩) (o : Nat) (u : Value) :
    BK (W.setCell ⟨g, o, none⟩ u) B (upF F c ⟨ty, sz, .slice (some ⟨g, 0, none⟩) n cap, n, xs.set o u⟩) E A := by
  have hO := h.pf.own c
  rw [hr] at hO
  exact h.upd hc (own_put hO o u) (fun k hk => .inl (by rw [hr]; exact hk)) fun k _ hne => Below.heap_setCell _ _ _ _ fun e => hne (by rw [hr, e]; rfl)
/-- One more list of attributes, and one with one more behind: both into the book. -/
theorem keepA {W : World} {B : Nat} {F : Nat → Rw} {E A : List Value} {c : Nat} {l : List Att} {va : Value} (h : BK W B F E A) (hc : 2 ≤ c) (hr : F c = ⟨54, 3, va, l.length, attCells (l.map (setA (A.length / 2)))⟩) (hn : l.length ≤ 20000) (hA : A.length ≤ 990000) :
    ∃ pa ca pA cA p3 c3 w3 p5 c5 w5, va = .slice pa l.length ca ∧ (F 1).v = .slice pA A.length cA ∧
      (W.cell? ⟨B, 1, none⟩ = some (.slice pA A.length cA) ∧ (W.alloc (litA (A.length / 2))).cell? ⟨B, 1, none⟩ = some (.slice pA A.length cA) ∧ w3.cell? ⟨B, 1, none⟩ = some (.slice pA A.length cA) ∧ (w3.alloc (.cells #[.slice pa l.length ca, .slice p3 (l.length + 1) c3] 30)).cell? ⟨B, 1, none⟩ = some (.slice pA A.length cA) ∧ w5.cell? ⟨B, 1, none⟩ = some (.slice pA A.length cA) ∧ w5.frozen? ⟨B, 1, none⟩ = false) ∧
      (∀ ty, (Builtin.append_ #[30, 30] ty #[.slice pa l.length ca, .slice (some ⟨W.heap.size, 0, none⟩) 1 1]).run Tryz.prog (W.alloc (litA (A.length / 2))).drew = .ok (.slice p3 (l.length + 1) c3) w3) ∧
      (∀ ty, (Builtin.append_ #[43, 43] ty #[.slice pA A.length cA, .slice (some ⟨w3.heap.size, 0, none⟩) 2 2]).run Tryz.prog (w3.alloc (.cells #[.slice pa l.length ca, .slice p3 (l.length + 1) c3] 30)) = .ok (.slice p5 (A.length + 2) c5) w5) ∧
      Below B W (w5.setCell ⟨B, 1, none⟩ (.slice p5 (A.length + 2) c5)) ∧
      ∃ F', BK (w5.setCell ⟨B, 1, none⟩ (.slice p5 (A.length + 2) c5)) B F' E (A ++ [.slice pa l.length ca, .slice p3 (l.length + 1) c3]) ∧ ∀ d, 2 ≤ d → d ≠ c → F' d = F d := by
  have hb1 : Below W.heap.size W (W.alloc (litA (A.length / 2))).drew := (bel1 W _).drew
  have h1 := h.below hb1
  have hBl := h.hB
  have hO1 : (W.alloc (litA (A.length / 2))).drew.ownsRow (B + 1) 54 3 va l.length (attCells (l.map (setA (A.length / 2)))) := by
    have := h1.pf.own c
    rw [hr] at this
    exact this
  obtain ⟨v3, w3, q1, q2, q3, q4, q5⟩ := ap2 (t := 30) (m := 1) Tryz.underlying30 infoAt rfl (by decide) hO1 (theap_new W (litA (A.length / 2))) rfl (fun u hu => by simp only [List.mem_cons, List.not_mem_nil, or_false] at hu; rcases hu with rfl | rfl | rfl <;> rfl) (by decide) (by omega) (by decide) (by have := h1.hB; omega)
  have hFc : (F c).v.ownBlock = va.ownBlock := by rw [hr]
  have hnb : ∀ {r : Rw}, r.v = .slice none 0 0 → ∀ k, r.v.ownBlock = some k → (F c).v.ownBlock = some k ∨ (W.alloc (litA (A.length / 2))).drew.heap.size ≤ k := fun e k hk => by rw [e] at hk; cases hk
  have h3 : BK w3 B (upF F c ⟨54, 3, .slice none 0 0, 0, []⟩) E A := h1.upd hc (World.ownsRow_nil _ _ _ _) (hnb rfl) fun k hk hne => q4.block k hk fun e => hne (by rw [hFc]; exact e.symm)
  have hfree : ∀ k, va.ownBlock = some k → ∀ d, (upF F c ⟨54, 3, .slice none 0 0, 0, []⟩ d).v.ownBlock ≠ some k := fun k hk d e => by
    by_cases hd : d = c
    · subst hd
      rw [upF_same] at e
      cases e
    · rw [upF_ne _ _ _ hd] at e
      exact h1.pf.apart c d (fun e => hd e.symm) k (by rw [hFc]; exact hk) e
  have b1 : Bears w3 (B + 1) (upF F c ⟨54, 3, .slice none 0 0, 0, []⟩) 3 0 (A.length / 2) va := Bears.own q3 (fun j hj => by
    have := att_mark (k := A.length / 2) hj []
    rwa [List.append_nil] at this) hfree (Nat.le_refl _) (by omega)
  have b2 : Bears w3 (B + 1) (upF F c ⟨54, 3, .slice none 0 0, 0, []⟩) 3 0 (A.length / 2) v3 := by
    refine Bears.own q2 (fun j hj => ?_) (fun k hk => ?_) (Nat.le_refl _) (by omega)
    · by_cases hj' : j < l.length
      · exact att_mark hj' _
      · obtain rfl : j = l.length := by omega
        have hl : (attCells (l.map (setA (A.length / 2)))).length = l.length * 3 := by
          have := q3.1
          exact this
        rw [List.getElem?_append_right (by rw [hl]; omega), hl, Nat.add_sub_cancel_left]
        rfl
    · rcases q5 with e | e
      · exact hfree k (e ▸ hk)
      · rw [e] at hk
        injection hk with hk
        intro d e2
        by_cases hd : d = c
        · subst hd
          rw [upF_same] at e2
          cases e2
        · rw [upF_ne _ _ _ hd] at e2
          have := (h1.pf.lt d e2).2
          omega
  obtain ⟨pa, ca, rfl⟩ := own_sl q3
  obtain ⟨p3, c3, rfl⟩ := own_sl q2
  have hb4 := bel1 w3 (.cells #[.slice pa l.length ca, .slice p3 (l.length + 1) c3] 30)
  have h4 := h3.below hb4
  have to4 : ∀ {z o n : Nat} {s : Value}, Bears w3 (B + 1) (upF F c ⟨54, 3, .slice none 0 0, 0, []⟩) z o n s → Bears (w3.alloc (.cells #[.slice pa l.length ca, .slice p3 (l.length + 1) c3] 30)) (B + 1) (upF F c ⟨54, 3, .slice none 0 0, 0, []⟩) z o n s := fun hb => hb.go fun k _ hk hf => ⟨hb4.block k hk, hf⟩
  have e1 : upF F c ⟨54, 3, .slice none 0 0, 0, []⟩ 1 = F 1 := upF_ne _ _ _ (by omega)
  have hO4 : (w3.alloc (.cells #[.slice pa l.length ca, .slice p3 (l.length + 1) c3] 30)).ownsRow (B + 1) 30 1 (F 1).v A.length A := by
    have := h4.pf.own 1
    rw [h4.f1, e1] at this
    exact this
  obtain ⟨v5, w5, r1, r2, r3, r4, r5⟩ := ap2 (t := 43) (m := 2) Tryz.underlying43 infoLA rfl (by decide) hO4 (theap_new w3 (.cells #[.slice pa l.length ca, .slice p3 (l.length + 1) c3] 30)) rfl (fun u hu => by simp only [List.mem_cons, List.not_mem_nil, or_false] at hu; rcases hu with rfl | rfl <;> rfl) (by decide) (by omega) (by decide) (by have := h4.hB; omega)
  obtain ⟨pA, cA, hpA⟩ := own_sl hO4
  obtain ⟨p5, c5, rfl⟩ := own_sl r2
  have h5 := h4.addA (v' := .slice p5 (A.length + 2) c5) (s1 := .slice pa l.length ca) (s2 := .slice p3 (l.length + 1) c3) r2 (by rw [e1]; exact r4) (by rw [e1]; exact r5) (to4 b1) (to4 b2)
  have hk5 : w5.heap[B]? = (w3.alloc (.cells #[.slice pa l.length ca, .slice p3 (l.length + 1) c3] 30)).heap[B]? := r4.block B h4.hB fun e => by
    have := (h4.pf.lt 1 (k := B) (by rw [e1]; exact e.symm)).1
    omega
  have cellB : ∀ {W' : World} {f' : Nat → Rw} {E' A' : List Value}, BK W' B f' E' A' → f' 1 = F 1 → W'.cell? ⟨B, 1, none⟩ = some (.slice pA A.length cA) := fun {W' f' E' A'} hk e => by
    simp only [World.cell?, hk.b, ← hpA, ← e]
    rfl
  refine ⟨pa, ca, pA, cA, p3, c3, w3, p5, c5, w5, rfl, hpA, ⟨cellB h rfl, cellB (h.below (bel1 W _)) rfl, cellB h3 e1, cellB h4 e1, ?_, ?_⟩, q1, by rw [← hpA]; exact r1, ?_, _, h5, fun d hd hdc => ?_⟩
  · simp only [World.cell?, hk5]
    exact cellB h4 e1
  · simp only [World.frozen?, hk5, h4.b]
    simp
  · have s1 : Below B W w3 := ((hb1.mono (Nat.le_of_lt hBl)).trans (Below.refl B _)).grown q4 (by have := h1.hB; omega) fun k hk => by have := (h1.pf.lt c (k := k) (by rw [hFc]; exact hk)).1; omega
    have s2 : Below B W (w3.alloc (.cells #[.slice pa l.length ca, .slice p3 (l.length + 1) c3] 30)) := s1.alloc (Nat.le_of_lt h3.hB) _
    have s3 : Below B W w5 := s2.grown r4 (by have := h4.hB; omega) fun k hk => by have := (h4.pf.lt 1 (k := k) (by rw [e1]; exact hk)).1; omega
    exact s3.setCell (Nat.le_refl _) _
  · rw [upF_ne _ _ _ (by omega), upF_ne _ _ _ hdc]
/-- One more list of elements, and one with one more behind: both into the book. -/
theorem keepE {W : World} {B : Nat} {F : Nat → Rw} {E A : List Value} {c : Nat} {l : List Elx} {va : Value} (h : BK W B F E A) (hc : 2 ≤ c) (hr : F c = ⟨32, 5, va, l.length, (l.map (setE (E.length / 2))).flatMap elC⟩) (hn : l.length ≤ 20000) (hA : E.length ≤ 990000) :
    ∃ pa ca pA cA p3 c3 w3 p5 c5 w5, va = .slice pa l.length ca ∧ (F 0).v = .slice pA E.length cA ∧
      (W.cell? ⟨B, 0, none⟩ = some (.slice pA E.length cA) ∧ (W.alloc (litE (E.length / 2))).cell? ⟨B, 0, none⟩ = some (.slice pA E.length cA) ∧ w3.cell? ⟨B, 0, none⟩ = some (.slice pA E.length cA) ∧ (w3.alloc (.cells #[.slice pa l.length ca, .slice p3 (l.length + 1) c3] 24)).cell? ⟨B, 0, none⟩ = some (.slice pA E.length cA) ∧ w5.cell? ⟨B, 0, none⟩ = some (.slice pA E.length cA) ∧ w5.frozen? ⟨B, 0, none⟩ = false) ∧
      (∀ ty, (Builtin.append_ #[24, 24] ty #[.slice pa l.length ca, .slice (some ⟨W.heap.size, 0, none⟩) 1 1]).run Tryz.prog (W.alloc (litE (E.length / 2))).drew = .ok (.slice p3 (l.length + 1) c3) w3) ∧
      (∀ ty, (Builtin.append_ #[42, 42] ty #[.slice pA E.length cA, .slice (some ⟨w3.heap.size, 0, none⟩) 2 2]).run Tryz.prog (w3.alloc (.cells #[.slice pa l.length ca, .slice p3 (l.length + 1) c3] 24)) = .ok (.slice p5 (E.length + 2) c5) w5) ∧
      Below B W (w5.setCell ⟨B, 0, none⟩ (.slice p5 (E.length + 2) c5)) ∧
      ∃ F', BK (w5.setCell ⟨B, 0, none⟩ (.slice p5 (E.length + 2) c5)) B F' (E ++ [.slice pa l.length ca, .slice p3 (l.length + 1) c3]) A ∧ ∀ d, 2 ≤ d → d ≠ c → F' d = F d := by
  have hb1 : Below W.heap.size W (W.alloc (litE (E.length / 2))).drew := (bel1 W _).drew
  have h1 := h.below hb1
  have hBl := h.hB
  have hO1 : (W.alloc (litE (E.length / 2))).drew.ownsRow (B + 1) 32 5 va l.length ((l.map (setE (E.length / 2))).flatMap elC) := by
    have := h1.pf.own c
    rw [hr] at this
    exact this
  obtain ⟨v3, w3, q1, q2, q3, q4, q5⟩ := ap2 (t := 24) (m := 1) Tryz.underlying24 infoEl rfl (by decide) hO1 (theap_new W (litE (E.length / 2))) rfl (fun u hu => by simp only [List.mem_cons, List.not_mem_nil, or_false] at hu; rcases hu with rfl | rfl | rfl | rfl | rfl <;> rfl) (by decide) (by omega) (by decide) (by have := h1.hB; omega)
  have hFc : (F c).v.ownBlock = va.ownBlock := by rw [hr]
  have hnb : ∀ {r : Rw}, r.v = .slice none 0 0 → ∀ k, r.v.ownBlock = some k → (F c).v.ownBlock = some k ∨ (W.alloc (litE (E.length / 2))).drew.heap.size ≤ k := fun e k hk => by rw [e] at hk; cases hk
  have h3 : BK w3 B (upF F c ⟨32, 5, .slice none 0 0, 0, []⟩) E A := h1.upd hc (World.ownsRow_nil _ _ _ _) (hnb rfl) fun k hk hne => q4.block k hk fun e => hne (by rw [hFc]; exact e.symm)
  have hfree : ∀ k, va.ownBlock = some k → ∀ d, (upF F c ⟨32, 5, .slice none 0 0, 0, []⟩ d).v.ownBlock ≠ some k := fun k hk d e => by
    by_cases hd : d = c
    · subst hd
      rw [upF_same] at e
      cases e
    · rw [upF_ne _ _ _ hd] at e
      exact h1.pf.apart c d (fun e => hd e.symm) k (by rw [hFc]; exact hk) e
  have b1 : Bears w3 (B + 1) (upF F c ⟨32, 5, .slice none 0 0, 0, []⟩) 5 1 (E.length / 2) va := Bears.own q3 (fun j hj => by
    have := els_mark (m := E.length / 2) hj []
    rwa [List.append_nil] at this) hfree (Nat.le_refl _) (by omega)
  have b2 : Bears w3 (B + 1) (upF F c ⟨32, 5, .slice none 0 0, 0, []⟩) 5 1 (E.length / 2) v3 := by
    refine Bears.own q2 (fun j hj => ?_) (fun k hk => ?_) (Nat.le_refl _) (by omega)
    · by_cases hj' : j < l.length
      · exact els_mark hj' _
      · obtain rfl : j = l.length := by omega
        have hl : ((l.map (setE (E.length / 2))).flatMap elC).length = l.length * 5 := by
          have := q3.1
          exact this
        rw [List.getElem?_append_right (by rw [hl]; omega), hl, Nat.add_sub_cancel_left]
        rfl
    · rcases q5 with e | e
      · exact hfree k (e ▸ hk)
      · rw [e] at hk
        injection hk with hk
        intro d e2
        by_cases hd : d = c
        · subst hd
          rw [upF_same] at e2
          cases e2
        · rw [upF_ne _ _ _ hd] at e2
          have := (h1.pf.lt d e2).2
          omega
  obtain ⟨pa, ca, rfl⟩ := own_sl q3
  obtain ⟨p3, c3, rfl⟩ := own_sl q2
  have hb4 := bel1 w3 (.cells #[.slice pa l.length ca, .slice p3 (l.length + 1) c3] 24)
  have h4 := h3.below hb4
  have to4 : ∀ {z o n : Nat} {s : Value}, Bears w3 (B + 1) (upF F c ⟨32, 5, .slice none 0 0, 0, []⟩) z o n s → Bears (w3.alloc (.cells #[.slice pa l.length ca, .slice p3 (l.length + 1) c3] 24)) (B + 1) (upF F c ⟨32, 5, .slice none 0 0, 0, []⟩) z o n s := fun hb => hb.go fun k _ hk hf => ⟨hb4.block k hk, hf⟩
  have e1 : upF F c ⟨32, 5, .slice none 0 0, 0, []⟩ 0 = F 0 := upF_ne _ _ _ (by omega)
  have hO4 : (w3.alloc (.cells #[.slice pa l.length ca, .slice p3 (l.length + 1) c3] 24)).ownsRow (B + 1) 24 1 (F 0).v E.length E := by
    have := h4.pf.own 0
    rw [h4.f0, e1] at this
    exact this
  obtain ⟨v5, w5, r1, r2, r3, r4, r5⟩ := ap2 (t := 42) (m := 2) Tryz.underlying42 infoLE rfl (by decide) hO4 (theap_new w3 (.cells #[.slice pa l.length ca, .slice p3 (l.length + 1) c3] 24)) rfl (fun u hu => by simp only [List.mem_cons, List.not_mem_nil, or_false] at hu; rcases hu with rfl | rfl <;> rfl) (by decide) (by omega) (by decide) (by have := h4.hB; omega)
  obtain ⟨pA, cA, hpA⟩ := own_sl hO4
  obtain ⟨p5, c5, rfl⟩ := own_sl r2
  have h5 := h4.addE (v' := .slice p5 (E.length + 2) c5) (s1 := .slice pa l.length ca) (s2 := .slice p3 (l.length + 1) c3) r2 (by rw [e1]; exact r4) (by rw [e1]; exact r5) (to4 b1) (to4 b2)
  have hk5 : w5.heap[B]? = (w3.alloc (.cells #[.slice pa l.length ca, .slice p3 (l.length + 1) c3] 24)).heap[B]? := r4.block B h4.hB fun e => by
    have := (h4.pf.lt 0 (k := B) (by rw [e1]; exact e.symm)).1
    omega
  have cellB : ∀ {W' : World} {f' : Nat → Rw} {E' A' : List Value}, BK W' B f' E' A' → f' 0 = F 0 → W'.cell? ⟨B, 0, none⟩ = some (.slice pA E.length cA) := fun {W' f' E' A'} hk e => by
    simp only [World.cell?, hk.b, ← hpA, ← e]
    rfl
  refine ⟨pa, ca, pA, cA, p3, c3, w3, p5, c5, w5, rfl, hpA, ⟨cellB h rfl, cellB (h.below (bel1 W _)) rfl, cellB h3 e1, cellB h4 e1, ?_, ?_⟩, q1, by rw [← hpA]; exact r1, ?_, _, h5, fun d hd hdc => ?_⟩
  · simp only [World.cell?, hk5]
    exact cellB h4 e1
  · simp only [World.frozen?, hk5, h4.b]
    simp
  · have s1 : Below B W w3 := ((hb1.mono (Nat.le_of_lt hBl)).trans (Below.refl B _)).grown q4 (by have := h1.hB; omega) fun k hk => by have := (h1.pf.lt c (k := k) (by rw [hFc]; exact hk)).1; omega
    have s2 : Below B W (w3.alloc (.cells #[.slice pa l.length ca, .slice p3 (l.length + 1) c3] 24)) := s1.alloc (Nat.le_of_lt h3.hB) _
    have s3 : Below B W w5 := s2.grown r4 (by have := h4.hB; omega) fun k hk => by have := (h4.pf.lt 0 (k := k) (by rw [e1]; exact hk)).1; omega
    exact s3.setCell (Nat.le_refl _) _
  · rw [upF_ne _ _ _ (by omega), upF_ne _ _ _ hdc]
end Go.Proofs.YtchfphakhmifmabGreatDoor
namespace Go.Proofs.YtchfphakhmifmabGreatDoor
open Go.ChangeShapes Go.WideShapes Go.ChangeAt Go.RowKit Go.Lib

set_option maxRecDepth 100000 in
set_option maxHeartbeats 2000000 in
theorem mark_any (n : Nat) (hn : n < 1000000000) (w : World) : Calls Tryz.prog 33 #[.int .i64 (n : Int)] w fun e w' => e = .returned (.string (mkS n)) ∧ Below w.heap.size w w' := by
  have kc := fun (w : World) (C : Array Value) (n c : Nat) => Lib.run_convert_bytes_const (P := Tryz.prog) w 59 5 C n c Tryz.underlying59 Tryz.underlying5
  have hlen : (markL n).length ≤ 14 := by
    have := digs_len 9 n hn
    unfold markL
    rw [List.length_append]
    show 5 + _ ≤ _
    omega
  go_enter Tryz.func33, Tryz.ntmps33
  go_wp2_with fail
  go_loopw [0, 3] (fun nv bv wr => ∃ (m : Nat) (L : List Nat), m < 1000000000 ∧ nv = .int .i64 (m : Int) ∧ BufM wr w.heap.size bv L ∧ Below w.heap.size w wr ∧ L ++ digs m = markL n) (fun nv _ _ => (RowKit.intOf nv).toNat)
  case atStart => exact ⟨n, [109, 97, 114, 107, 32], hn, rfl, BufM.lit w _ _ _ rfl _ rfl _ (Nat.le_refl _), (Below.refl _ _).alloc (Nat.le_refl _) _, rfl⟩
  case round =>
    obtain ⟨m, L, hm, rfl, hB, hb, hZ⟩ := hrel
    by_cases h0 : 0 < m
    · have h1 : (0 : Int) < m := by omega
      rw [digs_pos h0] at hZ
      have hL : L.length ≤ 14 := by rw [← hZ, List.length_append] at hlen; omega
      have r1 : Int.tmod (m : Int) 10 = ((m % 10 : Nat) : Int) := by rw [Int.tmod_eq_emod_of_nonneg (by omega)]; omega
      have r2 : IntKind.u8.wrap (48 + ((m % 10 : Nat) : Int)) = ((48 + m % 10 : Nat) : Int) := by rw [IntKind.wrap_u8]; omega
      have r3 : Int.tdiv (m : Int) 10 = ((m / 10 : Nat) : Int) := by rw [Int.tdiv_eq_ediv_of_nonneg (by omega)]; omega
      have r4 : IntKind.i64.wrap ((m % 10 : Nat) : Int) = ((m % 10 : Nat) : Int) := by rw [IntKind.wrap_i64]; omega
      have r5 : IntKind.i64.wrap (48 + ((m % 10 : Nat) : Int)) = 48 + ((m % 10 : Nat) : Int) := by rw [IntKind.wrap_i64]; omega
      have r6 : IntKind.i64.wrap ((m / 10 : Nat) : Int) = ((m / 10 : Nat) : Int) := by rw [IntKind.wrap_i64]; omega
      obtain ⟨v', w', hrun, hB', hb'⟩ := bufm_one hB (48 + m % 10) (by omega) hb.size
      go_wp2_with (at_builtin; refine (wpList_append_ex (by rfl) _ _ _ _ (by rfl) _ _ (by rfl) (by rfl) (fun a b => a = v' ∧ b = w') ⟨v', w', hrun, rfl, rfl⟩ ?_); rintro _ _ ⟨rfl, rfl⟩)
      go_roundw
      case rel => exact ⟨m / 10, L ++ [48 + m % 10], by omega, by simp, hB', hb.trans hb', by rw [List.append_assoc]; exact hZ⟩
      case measure => simp [RowKit.intOf]; omega
    · obtain rfl : m = 0 := by omega
      rw [digs_zero, List.append_nil] at hZ
      have hc := hB.conv
      go_wp2_with fail
      go_ret
      exact ⟨rfl, hb⟩
end Go.Proofs.YtchfphakhmifmabGreatDoor
namespace Go.Proofs.YtchfphakhmifmabGreatDoor
open Go.ChangeShapes Go.WideShapes Go.ChangeAt Go.RowKit Go.Lib

theorem bk_list {W : World} {base : Nat} {ty : TypeId} {v : Value} {n : Nat} {X : List Value} (h : W.ownsRow base ty 1 v n X) {i : Nat} {s : Value} (hs : X[i]? = some s) : ∃ g c, v = .slice (some ⟨g, 0, none⟩) n c ∧ W.cell? ⟨g, i, none⟩ = some s := by
  have hn : 0 < n := by
    have := (List.getElem?_eq_some_iff.1 hs).1
    have := h.1
    omega
  obtain ⟨g, c, rfl⟩ := own_shape h hn
  exact ⟨g, c, rfl, (own_get h hs).1⟩
theorem bk_own0 {W : World} {B : Nat} {f : Nat → Rw} {E A : List Value} (h : BK W B f E A) : W.ownsRow (B + 1) 24 1 (f 0).v E.length E := by
  have := h.pf.own 0
  rw [h.f0] at this
  exact this
theorem bk_own1 {W : World} {B : Nat} {f : Nat → Rw} {E A : List Value} (h : BK W B f E A) : W.ownsRow (B + 1) 30 1 (f 1).v A.length A := by
  have := h.pf.own 1
  rw [h.f1] at this
  exact this
theorem bk_cells {W : World} {B : Nat} {f : Nat → Rw} {E A : List Value} (h : BK W B f E A) : W.cell? ⟨B, 0, none⟩ = some (f 0).v ∧ W.cell? ⟨B, 1, none⟩ = some (f 1).v := by
  constructor <;> (simp only [World.cell?, h.b]; rfl)
theorem ent_mark : ∀ ag w, (callFunc 33 ag).run Tryz.prog w = .ok (.enter 33 ag) w := enters_of Tryz.func33 (by kernel_rfl) rfl
set_option maxRecDepth 100000 in
set_option maxHeartbeats 4000000 in
theorem holds_any (B : Nat) (f : Nat → Rw) (E A : List Value) (w : World) (h : BK w B f E A) (hE : E.length ≤ 1000000) (hA : A.length ≤ 1000000) : Calls Tryz.prog 14 #[.pointer (some ⟨B, 0, none⟩)] w fun e w' => e = .returned (.bool true) ∧ Below w.heap.size w w' := by
  have hm := fun n (hn : n < 1000000000) W => mark_any n hn W
  have hO0 := bk_own0 h
  have hO1 := bk_own1 h
  obtain ⟨c0, c1⟩ := bk_cells h
  obtain ⟨p0, q0, hv0⟩ := own_sl hO0
  obtain ⟨p1, q1, hv1⟩ := own_sl hO1
  rw [hv0] at c0
  rw [hv1] at c1
  go_enter Tryz.func14, Tryz.ntmps14
  go_wp2_with fail
  go_loopw [3] (fun i wr => ∃ k : Nat, k ≤ E.length ∧ i = .int .i64 (k : Int) ∧ Below w.heap.size w wr) (fun i _ => E.length - (RowKit.intOf i).toNat)
  case atStart => exact ⟨0, Nat.zero_le _, rfl, Below.refl _ _⟩
  case round =>
    obtain ⟨k, hk, rfl, hb⟩ := hrel
    by_cases hlt : k < E.length
    · obtain ⟨s, hs⟩ : ∃ s, E[k]? = some s := ⟨E[k], List.getElem?_eq_getElem hlt⟩
      obtain ⟨g, c, e, hc⟩ := bk_list hO0 hs
      rw [hv0] at e
      injection e with e _ e2
      subst e e2
      obtain ⟨p, len, cap, rfl, hl, hBr⟩ := h.e k s hs
      have hgl := kcell_lt (a := ⟨g, _, none⟩) hc
      have d0 := (hb.cell (p := ⟨B, 0, none⟩) h.hB).trans c0
      have d1 := (hb.cell (p := ⟨g, k, none⟩) hgl).trans hc
      have hlt' : (k : Int) < E.length := by omega
      have r3 : IntKind.i64.wrap ((k : Int) / 2) = ((k / 2 : Nat) : Int) := by rw [IntKind.wrap_i64]; omega
      have hLt := hE
      have c0' := c0
      have hBl := h.hB
      clear hs
      go_wp2_with fail
      go_loopw [4] (fun j wr' => ∃ q : Nat, q ≤ len ∧ j = .int .i64 (q : Int) ∧ Below w.heap.size w wr') (fun j _ => len - (RowKit.intOf j).toNat)
      case atStart => exact ⟨0, Nat.zero_le _, rfl, hb⟩
      case round =>
        obtain ⟨q, hq, rfl, hb'⟩ := hrel
        have x0 := (hb'.cell (p := ⟨B, 0, none⟩) hBl).trans c0'
        have x1 := (hb'.cell (p := ⟨g, k, none⟩) hgl).trans hc
        by_cases hql : q < len
        · obtain ⟨gl, rfl, -, -, hcl⟩ := hBr q hql
          replace hcl : w.cell? ⟨gl, q * 5 + 1, none⟩ = some (.string (mkS (k / 2))) := hcl
          have hgll := kcell_lt (a := ⟨gl, _, none⟩) hcl
          have x2 := (hb'.cell (p := ⟨gl, q * 5 + 1, none⟩) hgll).trans hcl
          have hql' : (q : Int) < len := by omega
          have cM := (hm (k / 2) (by omega) wr.drew).mono (R' := fun e w2 => ∃ v, e = .returned v ∧ v = .string (mkS (k / 2)) ∧ (w2.cell? ⟨B, 0, none⟩ = some (.slice (some ⟨g, 0, none⟩) E.length q0) ∧ w2.cell? ⟨g, k, none⟩ = some (.slice (some ⟨gl, 0, none⟩) len cap) ∧ w2.cell? ⟨gl, q * 5 + 1, none⟩ = some (.string (mkS (k / 2)))) ∧ Below w.heap.size w w2) (fun e w2 ⟨h1, h2⟩ => by
            have hb2 : Below w.heap.size w w2 := hb'.drew.trans (h2.mono hb'.size)
            exact ⟨_, h1, rfl, ⟨(hb2.cell (p := ⟨B, 0, none⟩) hBl).trans c0', (hb2.cell (p := ⟨g, k, none⟩) hgl).trans hc, (hb2.cell (p := ⟨gl, q * 5 + 1, none⟩) hgll).trans hcl⟩, hb2⟩)
          clear hm hBr hcl hc d0 d1 hb h hO0 hO1 c0 c1 hv0 hv1 hgl hgll hLt c0' hb'
          go_wp2_with fail
          refine wp_region_held_drew (S := fun w' => w'.cell? ⟨B, 0, none⟩ = some (.slice (some ⟨g, 0, none⟩) E.length q0) ∧ w'.cell? ⟨g, k, none⟩ = some (.slice (some ⟨gl, 0, none⟩) len cap) ∧ w'.cell? ⟨gl, q * 5 + 1, none⟩ = some (.string (mkS (k / 2)))) (by kernel_rfl) ⟨x0, x1, x2⟩ (fun hHeld => ?_)
          refine wpAnyH_take (i := 0) (oi := { dst := some 28, op := Op.move (Operand.tmp 0), type := 41, pos := "law.go:166", after := #[], guard := none }) (v := ?v15) rfl (by kernel_rfl) (by kernel_rfl) (by kernel_rfl) (fun _ _ _ h => h) (Or.inl ⟨by rfl, ?hy15⟩) (by assumption) ?rest15
          case hy15 => (intro w hSw; (try dsimp only at hSw); go_simp <;> with_reducible rfl)
          try simp only [Act.put, List.setIfInBounds_toArray, List.set_cons_zero, List.set_cons_succ]
          refine wpAnyH_take (i := 1) (oi := { dst := some 29, op := Op.nilCheck (Operand.tmp 28), type := 0, pos := "law.go:166", after := #[{ on := 0, ground := Ground.data }], guard := none }) (v := ?v16) rfl (by kernel_rfl) (by kernel_rfl) (by kernel_rfl) (fun _ _ _ h => h) (Or.inl ⟨by rfl, ?hy16⟩) (by assumption) ?rest16
          case hy16 => (intro w hSw; (try dsimp only at hSw); go_simp <;> with_reducible rfl)
          try simp only [Act.put, List.setIfInBounds_toArray, List.set_cons_zero, List.set_cons_succ]
          refine wpAnyH_take (i := 2) (oi := { dst := some 30, op := Op.fieldAddr 45 (Operand.tmp 29) 0, type := 0, pos := "law.go:166", after := #[{ on := 1, ground := Ground.data }], guard := none }) (v := ?v17) rfl (by kernel_rfl) (by kernel_rfl) (by kernel_rfl) (fun _ _ _ h => h) (Or.inl ⟨by rfl, ?hy17⟩) (by assumption) ?rest17
          case hy17 => (intro w hSw; (try dsimp only at hSw); go_simp <;> with_reducible rfl)
          try simp only [Act.put, List.setIfInBounds_toArray, List.set_cons_zero, List.set_cons_succ]
          refine wpAnyH_take (i := 3) (oi := { dst := some 31, op := Op.load 42 (Operand.tmp 30), type := 42, pos := "law.go:166", after := #[{ on := 2, ground := Ground.data }], guard := none }) (v := ?v18) rfl (by kernel_rfl) (by kernel_rfl) (by kernel_rfl) (fun _ _ _ h => h) (Or.inl ⟨by rfl, ?hy18⟩) (by assumption) ?rest18
          case hy18 => (intro w hSw; (try dsimp only at hSw); go_simp <;> with_reducible rfl)
          try simp only [Act.put, List.setIfInBounds_toArray, List.set_cons_zero, List.set_cons_succ]
          refine wpAnyH_take (i := 4) (oi := { dst := some 32, op := Op.move (Operand.tmp 3), type := 3, pos := "law.go:166", after := #[], guard := none }) (v := ?v19) rfl (by kernel_rfl) (by kernel_rfl) (by kernel_rfl) (fun _ _ _ h => h) (Or.inl ⟨by rfl, ?hy19⟩) (by assumption) ?rest19
          case hy19 => (intro w hSw; (try dsimp only at hSw); go_simp <;> with_reducible rfl)
          try simp only [Act.put, List.setIfInBounds_toArray, List.set_cons_zero, List.set_cons_succ]
          refine wpAnyH_take (i := 5) (oi := { dst := some 33, op := Op.indexAddr 42 (Operand.tmp 31) (Operand.tmp 32), type := 0, pos := "law.go:166", after := #[{ on := 3, ground := Ground.data }, { on := 4, ground := Ground.data }], guard := none }) (v := ?v20) rfl (by kernel_rfl) (by kernel_rfl) (by kernel_rfl) (fun _ _ _ h => h) (Or.inl ⟨by rfl, ?hy20⟩) (by assumption) ?rest20
          case hy20 => (intro w hSw; (try dsimp only at hSw); go_simp <;> with_reducible rfl)
          try simp only [Act.put, List.setIfInBounds_toArray, List.set_cons_zero, List.set_cons_succ]
          refine wpAnyH_take (i := 6) (oi := { dst := some 34, op := Op.load 24 (Operand.tmp 33), type := 24, pos := "law.go:166", after := #[{ on := 5, ground := Ground.data }], guard := none }) (v := ?v21) rfl (by kernel_rfl) (by kernel_rfl) (by kernel_rfl) (fun _ _ _ h => h) (Or.inl ⟨by rfl, ?hy21⟩) (by assumption) ?rest21
          case hy21 => (intro w hSw; (try dsimp only at hSw); go_simp <;> with_reducible rfl)
          try simp only [Act.put, List.setIfInBounds_toArray, List.set_cons_zero, List.set_cons_succ]
          refine wpAnyH_take (i := 7) (oi := { dst := some 35, op := Op.move (Operand.tmp 4), type := 3, pos := "law.go:166", after := #[], guard := none }) (v := ?v22) rfl (by kernel_rfl) (by kernel_rfl) (by kernel_rfl) (fun _ _ _ h => h) (Or.inl ⟨by rfl, ?hy22⟩) (by assumption) ?rest22
          case hy22 => (intro w hSw; (try dsimp only at hSw); go_simp <;> with_reducible rfl)
          try simp only [Act.put, List.setIfInBounds_toArray, List.set_cons_zero, List.set_cons_succ]
          refine wpAnyH_take (i := 8) (oi := { dst := some 36, op := Op.indexAddr 24 (Operand.tmp 34) (Operand.tmp 35), type := 0, pos := "law.go:166", after := #[{ on := 6, ground := Ground.data }, { on := 7, ground := Ground.data }], guard := none }) (v := ?v23) rfl (by kernel_rfl) (by kernel_rfl) (by kernel_rfl) (fun _ _ _ h => h) (Or.inl ⟨by rfl, ?hy23⟩) (by assumption) ?rest23
          case hy23 => (intro w hSw; (try dsimp only at hSw); go_simp <;> with_reducible rfl)
          try simp only [Act.put, List.setIfInBounds_toArray, List.set_cons_zero, List.set_cons_succ]
          refine wpAnyH_take (i := 9) (oi := { dst := some 37, op := Op.fieldAddr 32 (Operand.tmp 36) 1, type := 0, pos := "law.go:166", after := #[{ on := 8, ground := Ground.data }], guard := none }) (v := ?v24) rfl (by kernel_rfl) (by kernel_rfl) (by kernel_rfl) (fun _ _ _ h => h) (Or.inl ⟨by rfl, ?hy24⟩) (by assumption) ?rest24
          case hy24 => (intro w hSw; (try dsimp only at hSw); go_simp <;> with_reducible rfl)
          try simp only [Act.put, List.setIfInBounds_toArray, List.set_cons_zero, List.set_cons_succ]
          refine wpAnyH_take (i := 10) (oi := { dst := some 38, op := Op.load 9 (Operand.tmp 37), type := 9, pos := "law.go:166", after := #[{ on := 9, ground := Ground.data }], guard := none }) (v := ?v25) rfl (by kernel_rfl) (by kernel_rfl) (by kernel_rfl) (fun _ _ _ h => h) (Or.inl ⟨by rfl, ?hy25⟩) (by assumption) ?rest25
          case hy25 => (intro w hSw; (try dsimp only at hSw); go_simp <;> with_reducible rfl)
          try simp only [Act.put, List.setIfInBounds_toArray, List.set_cons_zero, List.set_cons_succ]
          refine wpAnyH_take (i := 11) (oi := { dst := some 39, op := Op.move (Operand.tmp 3), type := 3, pos := "law.go:166", after := #[], guard := none }) (v := ?v26) rfl (by kernel_rfl) (by kernel_rfl) (by kernel_rfl) (fun _ _ _ h => h) (Or.inl ⟨by rfl, ?hy26⟩) (by assumption) ?rest26
          case hy26 => (intro w hSw; (try dsimp only at hSw); go_simp <;> with_reducible rfl)
          try simp only [Act.put, List.setIfInBounds_toArray, List.set_cons_zero, List.set_cons_succ]
          refine wpAnyH_take (i := 12) (oi := { dst := some 40, op := Op.binOp BinOp.quo 3 (Operand.tmp 39) (Operand.const (Value.int IntKind.i64 2)) 3, type := 3, pos := "law.go:166", after := #[{ on := 11, ground := Ground.data }], guard := none }) (v := ?v27) rfl (by kernel_rfl) (by kernel_rfl) (by kernel_rfl) (fun _ _ _ h => h) (Or.inl ⟨by rfl, ?hy27⟩) (by assumption) ?rest27
          case hy27 => (intro w hSw; (try dsimp only at hSw); go_simp <;> with_reducible rfl)
          try simp only [Act.put, List.setIfInBounds_toArray, List.set_cons_zero, List.set_cons_succ]
          refine wpAnyH_ready (rs := [13]) (by kernel_rfl) (by simp) (AllReadyH.cons (o := { dst := some 41, op := Op.call { callee := Callee.value (Operand.func 33), args := #[Operand.tmp 40], argTypes := #[3] }, type := 9, pos := "law.go:166", after := #[{ on := 12, ground := Ground.data }], guard := none }) rfl (fun K hK => ?_) (AllReadyH.nil))
          refine xstep1 ?_ _ (.tmp 40) #[3] ?_ ent_mark _ ?_ _ cM ?_
          · rfl
          · rfl
          · exact congrArg (Value.int .i64) (by omega)
          rintro _ w2 ⟨rfl, hS2, hb2⟩
          refine hK.out _ _ hS2 (fun hHeld => ?_)
          clear hK K
          try simp only [Act.put, List.setIfInBounds_toArray, List.set_cons_zero, List.set_cons_succ]
          refine wpAnyH_take (i := 14) (oi := { dst := some 42, op := Op.binOp BinOp.neq 9 (Operand.tmp 38) (Operand.tmp 41) 9, type := 4, pos := "law.go:166", after := #[{ on := 10, ground := Ground.data }, { on := 13, ground := Ground.data }], guard := none }) (v := ?v28) rfl (by kernel_rfl) (by kernel_rfl) (by kernel_rfl) (fun _ _ _ h => h) (Or.inl ⟨by rfl, ?hy28⟩) (by assumption) ?rest28
          case hy28 => (intro w hSw; (try dsimp only at hSw); go_simp <;> with_reducible rfl)
          try simp only [Act.put, List.setIfInBounds_toArray, List.set_cons_zero, List.set_cons_succ]
          refine wpAnyH_done (by kernel_rfl) ?_ _
          go_wp2_with fail
          go_roundw
          case rel => exact ⟨q + 1, by omega, by go_num, hb2⟩
          case measure => simp [RowKit.intOf]; omega
        · obtain rfl : q = len := by omega
          go_wp2_with fail
          go_roundw
          case rel => exact ⟨k + 1, by omega, by go_num, hb'⟩
          case measure => simp [RowKit.intOf]; omega
    · obtain rfl : k = E.length := by omega
      have d0 := (hb.cell (p := ⟨B, 0, none⟩) h.hB).trans c0
      go_wp2_with fail
      have hbE := hb
      clear hb d0
      go_loopw [5] (fun i wr => ∃ k : Nat, k ≤ A.length ∧ i = .int .i64 (k : Int) ∧ Below w.heap.size w wr) (fun i _ => A.length - (RowKit.intOf i).toNat)
      case atStart => exact ⟨0, Nat.zero_le _, rfl, hbE⟩
      case round =>
        obtain ⟨k, hk, rfl, hb⟩ := hrel
        clear hbE
        by_cases hlt : k < A.length
        · obtain ⟨s, hs⟩ : ∃ s, A[k]? = some s := ⟨A[k], List.getElem?_eq_getElem hlt⟩
          obtain ⟨g, c, e, hc⟩ := bk_list hO1 hs
          rw [hv1] at e
          injection e with e _ e2
          subst e e2
          obtain ⟨p, len, cap, rfl, hl, hBr⟩ := h.a k s hs
          have hgl := kcell_lt (a := ⟨g, _, none⟩) hc
          have d0 := (hb.cell (p := ⟨B, 1, none⟩) h.hB).trans c1
          have d1 := (hb.cell (p := ⟨g, k, none⟩) hgl).trans hc
          have hlt' : (k : Int) < A.length := by omega
          have r3 : IntKind.i64.wrap ((k : Int) / 2) = ((k / 2 : Nat) : Int) := by rw [IntKind.wrap_i64]; omega
          have hLt := hA
          have c0' := c1
          have hBl := h.hB
          clear hs
          go_wp2_with fail
          go_loopw [6] (fun j wr' => ∃ q : Nat, q ≤ len ∧ j = .int .i64 (q : Int) ∧ Below w.heap.size w wr') (fun j _ => len - (RowKit.intOf j).toNat)
          case atStart => exact ⟨0, Nat.zero_le _, rfl, hb⟩
          case round =>
            obtain ⟨q, hq, rfl, hb'⟩ := hrel
            have x0 := (hb'.cell (p := ⟨B, 1, none⟩) hBl).trans c0'
            have x1 := (hb'.cell (p := ⟨g, k, none⟩) hgl).trans hc
            by_cases hql : q < len
            · obtain ⟨gl, rfl, -, -, hcl⟩ := hBr q hql
              replace hcl : w.cell? ⟨gl, q * 3, none⟩ = some (.string (mkS (k / 2))) := hcl
              have hgll := kcell_lt (a := ⟨gl, _, none⟩) hcl
              have x2 := (hb'.cell (p := ⟨gl, q * 3, none⟩) hgll).trans hcl
              have hql' : (q : Int) < len := by omega
              have cM := (hm (k / 2) (by omega) wr.drew).mono (R' := fun e w2 => ∃ v, e = .returned v ∧ v = .string (mkS (k / 2)) ∧ (w2.cell? ⟨B, 1, none⟩ = some (.slice (some ⟨g, 0, none⟩) A.length q1) ∧ w2.cell? ⟨g, k, none⟩ = some (.slice (some ⟨gl, 0, none⟩) len cap) ∧ w2.cell? ⟨gl, q * 3, none⟩ = some (.string (mkS (k / 2)))) ∧ Below w.heap.size w w2) (fun e w2 ⟨h1, h2⟩ => by
                have hb2 : Below w.heap.size w w2 := hb'.drew.trans (h2.mono hb'.size)
                exact ⟨_, h1, rfl, ⟨(hb2.cell (p := ⟨B, 1, none⟩) hBl).trans c0', (hb2.cell (p := ⟨g, k, none⟩) hgl).trans hc, (hb2.cell (p := ⟨gl, q * 3, none⟩) hgll).trans hcl⟩, hb2⟩)
              clear hm hBr hcl hc d0 d1 hb h hO0 hO1 c0 c1 hv0 hv1 hgl hgll hLt c0' hb'
              go_wp2_with fail
              refine wp_region_held_drew (S := fun w' => w'.cell? ⟨B, 1, none⟩ = some (.slice (some ⟨g, 0, none⟩) A.length q1) ∧ w'.cell? ⟨g, k, none⟩ = some (.slice (some ⟨gl, 0, none⟩) len cap) ∧ w'.cell? ⟨gl, q * 3, none⟩ = some (.string (mkS (k / 2)))) (by kernel_rfl) ⟨x0, x1, x2⟩ (fun hHeld => ?_)
              refine wpAnyH_take (i := 0) (oi := { dst := some 64, op := Op.move (Operand.tmp 0), type := 41, pos := "law.go:173", after := #[], guard := none }) (v := ?v1) rfl (by kernel_rfl) (by kernel_rfl) (by kernel_rfl) (fun _ _ _ h => h) (Or.inl ⟨by rfl, ?hy1⟩) (by assumption) ?rest1
              case hy1 => (intro w hSw; (try dsimp only at hSw); go_simp <;> with_reducible rfl)
              try simp only [Act.put, List.setIfInBounds_toArray, List.set_cons_zero, List.set_cons_succ]
              refine wpAnyH_take (i := 1) (oi := { dst := some 65, op := Op.nilCheck (Operand.tmp 64), type := 0, pos := "law.go:173", after := #[{ on := 0, ground := Ground.data }], guard := none }) (v := ?v2) rfl (by kernel_rfl) (by kernel_rfl) (by kernel_rfl) (fun _ _ _ h => h) (Or.inl ⟨by rfl, ?hy2⟩) (by assumption) ?rest2
              case hy2 => (intro w hSw; (try dsimp only at hSw); go_simp <;> with_reducible rfl)
              try simp only [Act.put, List.setIfInBounds_toArray, List.set_cons_zero, List.set_cons_succ]
              refine wpAnyH_take (i := 2) (oi := { dst := some 66, op := Op.fieldAddr 45 (Operand.tmp 65) 1, type := 0, pos := "law.go:173", after := #[{ on := 1, ground := Ground.data }], guard := none }) (v := ?v3) rfl (by kernel_rfl) (by kernel_rfl) (by kernel_rfl) (fun _ _ _ h => h) (Or.inl ⟨by rfl, ?hy3⟩) (by assumption) ?rest3
              case hy3 => (intro w hSw; (try dsimp only at hSw); go_simp <;> with_reducible rfl)
              try simp only [Act.put, List.setIfInBounds_toArray, List.set_cons_zero, List.set_cons_succ]
              refine wpAnyH_take (i := 3) (oi := { dst := some 67, op := Op.load 43 (Operand.tmp 66), type := 43, pos := "law.go:173", after := #[{ on := 2, ground := Ground.data }], guard := none }) (v := ?v4) rfl (by kernel_rfl) (by kernel_rfl) (by kernel_rfl) (fun _ _ _ h => h) (Or.inl ⟨by rfl, ?hy4⟩) (by assumption) ?rest4
              case hy4 => (intro w hSw; (try dsimp only at hSw); go_simp <;> with_reducible rfl)
              try simp only [Act.put, List.setIfInBounds_toArray, List.set_cons_zero, List.set_cons_succ]
              refine wpAnyH_take (i := 4) (oi := { dst := some 68, op := Op.move (Operand.tmp 5), type := 3, pos := "law.go:173", after := #[], guard := none }) (v := ?v5) rfl (by kernel_rfl) (by kernel_rfl) (by kernel_rfl) (fun _ _ _ h => h) (Or.inl ⟨by rfl, ?hy5⟩) (by assumption) ?rest5
              case hy5 => (intro w hSw; (try dsimp only at hSw); go_simp <;> with_reducible rfl)
              try simp only [Act.put, List.setIfInBounds_toArray, List.set_cons_zero, List.set_cons_succ]
              refine wpAnyH_take (i := 5) (oi := { dst := some 69, op := Op.indexAddr 43 (Operand.tmp 67) (Operand.tmp 68), type := 0, pos := "law.go:173", after := #[{ on := 3, ground := Ground.data }, { on := 4, ground := Ground.data }], guard := none }) (v := ?v6) rfl (by kernel_rfl) (by kernel_rfl) (by kernel_rfl) (fun _ _ _ h => h) (Or.inl ⟨by rfl, ?hy6⟩) (by assumption) ?rest6
              case hy6 => (intro w hSw; (try dsimp only at hSw); go_simp <;> with_reducible rfl)
              try simp only [Act.put, List.setIfInBounds_toArray, List.set_cons_zero, List.set_cons_succ]
              refine wpAnyH_take (i := 6) (oi := { dst := some 70, op := Op.load 30 (Operand.tmp 69), type := 30, pos := "law.go:173", after := #[{ on := 5, ground := Ground.data }], guard := none }) (v := ?v7) rfl (by kernel_rfl) (by kernel_rfl) (by kernel_rfl) (fun _ _ _ h => h) (Or.inl ⟨by rfl, ?hy7⟩) (by assumption) ?rest7
              case hy7 => (intro w hSw; (try dsimp only at hSw); go_simp <;> with_reducible rfl)
              try simp only [Act.put, List.setIfInBounds_toArray, List.set_cons_zero, List.set_cons_succ]
              refine wpAnyH_take (i := 7) (oi := { dst := some 71, op := Op.move (Operand.tmp 6), type := 3, pos := "law.go:173", after := #[], guard := none }) (v := ?v8) rfl (by kernel_rfl) (by kernel_rfl) (by kernel_rfl) (fun _ _ _ h => h) (Or.inl ⟨by rfl, ?hy8⟩) (by assumption) ?rest8
              case hy8 => (intro w hSw; (try dsimp only at hSw); go_simp <;> with_reducible rfl)
              try simp only [Act.put, List.setIfInBounds_toArray, List.set_cons_zero, List.set_cons_succ]
              refine wpAnyH_take (i := 8) (oi := { dst := some 72, op := Op.indexAddr 30 (Operand.tmp 70) (Operand.tmp 71), type := 0, pos := "law.go:173", after := #[{ on := 6, ground := Ground.data }, { on := 7, ground := Ground.data }], guard := none }) (v := ?v9) rfl (by kernel_rfl) (by kernel_rfl) (by kernel_rfl) (fun _ _ _ h => h) (Or.inl ⟨by rfl, ?hy9⟩) (by assumption) ?rest9
              case hy9 => (intro w hSw; (try dsimp only at hSw); go_simp <;> with_reducible rfl)
              try simp only [Act.put, List.setIfInBounds_toArray, List.set_cons_zero, List.set_cons_succ]
              refine wpAnyH_take (i := 9) (oi := { dst := some 73, op := Op.fieldAddr 54 (Operand.tmp 72) 0, type := 0, pos := "law.go:173", after := #[{ on := 8, ground := Ground.data }], guard := none }) (v := ?v10) rfl (by kernel_rfl) (by kernel_rfl) (by kernel_rfl) (fun _ _ _ h => h) (Or.inl ⟨by rfl, ?hy10⟩) (by assumption) ?rest10
              case hy10 => (intro w hSw; (try dsimp only at hSw); go_simp <;> with_reducible rfl)
              try simp only [Act.put, List.setIfInBounds_toArray, List.set_cons_zero, List.set_cons_succ]
              refine wpAnyH_take (i := 10) (oi := { dst := some 74, op := Op.load 9 (Operand.tmp 73), type := 9, pos := "law.go:173", after := #[{ on := 9, ground := Ground.data }], guard := none }) (v := ?v11) rfl (by kernel_rfl) (by kernel_rfl) (by kernel_rfl) (fun _ _ _ h => h) (Or.inl ⟨by rfl, ?hy11⟩) (by assumption) ?rest11
              case hy11 => (intro w hSw; (try dsimp only at hSw); go_simp <;> with_reducible rfl)
              try simp only [Act.put, List.setIfInBounds_toArray, List.set_cons_zero, List.set_cons_succ]
              refine wpAnyH_take (i := 11) (oi := { dst := some 75, op := Op.move (Operand.tmp 5), type := 3, pos := "law.go:173", after := #[], guard := none }) (v := ?v12) rfl (by kernel_rfl) (by kernel_rfl) (by kernel_rfl) (fun _ _ _ h => h) (Or.inl ⟨by rfl, ?hy12⟩) (by assumption) ?rest12
              case hy12 => (intro w hSw; (try dsimp only at hSw); go_simp <;> with_reducible rfl)
              try simp only [Act.put, List.setIfInBounds_toArray, List.set_cons_zero, List.set_cons_succ]
              refine wpAnyH_take (i := 12) (oi := { dst := some 76, op := Op.binOp BinOp.quo 3 (Operand.tmp 75) (Operand.const (Value.int IntKind.i64 2)) 3, type := 3, pos := "law.go:173", after := #[{ on := 11, ground := Ground.data }], guard := none }) (v := ?v13) rfl (by kernel_rfl) (by kernel_rfl) (by kernel_rfl) (fun _ _ _ h => h) (Or.inl ⟨by rfl, ?hy13⟩) (by assumption) ?rest13
              case hy13 => (intro w hSw; (try dsimp only at hSw); go_simp <;> with_reducible rfl)
              try simp only [Act.put, List.setIfInBounds_toArray, List.set_cons_zero, List.set_cons_succ]
              refine wpAnyH_ready (rs := [13]) (by kernel_rfl) (by simp) (AllReadyH.cons (o := { dst := some 77, op := Op.call { callee := Callee.value (Operand.func 33), args := #[Operand.tmp 76], argTypes := #[3] }, type := 9, pos := "law.go:173", after := #[{ on := 12, ground := Ground.data }], guard := none }) rfl (fun K hK => ?_) (AllReadyH.nil))
              refine xstep1 ?_ _ (.tmp 76) #[3] ?_ ent_mark _ ?_ _ cM ?_
              · rfl
              · rfl
              · exact congrArg (Value.int .i64) (by omega)
              rintro _ w2 ⟨rfl, hS2, hb2⟩
              refine hK.out _ _ hS2 (fun hHeld => ?_)
              clear hK K
              try simp only [Act.put, List.setIfInBounds_toArray, List.set_cons_zero, List.set_cons_succ]
              refine wpAnyH_take (i := 14) (oi := { dst := some 78, op := Op.binOp BinOp.neq 9 (Operand.tmp 74) (Operand.tmp 77) 9, type := 4, pos := "law.go:173", after := #[{ on := 10, ground := Ground.data }, { on := 13, ground := Ground.data }], guard := none }) (v := ?v14) rfl (by kernel_rfl) (by kernel_rfl) (by kernel_rfl) (fun _ _ _ h => h) (Or.inl ⟨by rfl, ?hy14⟩) (by assumption) ?rest14
              case hy14 => (intro w hSw; (try dsimp only at hSw); go_simp <;> with_reducible rfl)
              try simp only [Act.put, List.setIfInBounds_toArray, List.set_cons_zero, List.set_cons_succ]
              refine wpAnyH_done (by kernel_rfl) ?_ _
              go_wp2_with fail
              go_roundw
              case rel => exact ⟨q + 1, by omega, by go_num, hb2⟩
              case measure => simp [RowKit.intOf]; omega
            · obtain rfl : q = len := by omega
              go_wp2_with fail
              go_roundw
              case rel => exact ⟨k + 1, by omega, by go_num, hb'⟩
              case measure => simp [RowKit.intOf]; omega
        · obtain rfl : k = A.length := by omega
          have d0 := (hb.cell (p := ⟨B, 1, none⟩) h.hB).trans c1
          go_wp2_with fail
          go_ret
          exact ⟨rfl, hb⟩
end Go.Proofs.YtchfphakhmifmabGreatDoor
namespace Go.Proofs.YtchfphakhmifmabGreatDoor
open Go.ChangeShapes Go.WideShapes Go.ChangeAt Go.RowKit Go.Lib

/-- What keep has done behind the k-th element. -/
structure KI (w wr : World) (B : Nat) (E A : List Value) (vE : Value) (ex : List Elx) (k : Nat) (F : Nat → Rw) (A' : List Value) : Prop where
  b : BK wr B F E A'
  r2 : F 2 = elR vE (fm (setE (E.length / 2)) k ex)
  r3 : ∀ i x, k ≤ i → ex[i]? = some x → F (3 + i) = atR x
  l : A'.length = A.length + 2 * k
  bel : Below B w wr
/-- .. and of its attributes the q-th. -/
structure KJ (w wr : World) (B : Nat) (E A' : List Value) (vE : Value) (ex : List Elx) (k : Nat) (x : Elx) (F : Nat → Rw) (q : Nat) : Prop where
  b : BK wr B F E A'
  r2 : F 2 = elR vE (fm (setE (E.length / 2)) k ex)
  r3 : F (3 + k) = ⟨54, 3, x.av, x.e.ats.length, attCells (fm (setA (A'.length / 2)) q x.e.ats)⟩
  r4 : ∀ i y, k < i → ex[i]? = some y → F (3 + i) = atR y
  bel : Below B w wr
theorem KI.below {w wr w' : World} {B : Nat} {E A : List Value} {vE : Value} {ex : List Elx} {k : Nat} {F : Nat → Rw} {A' : List Value} (h : KI w wr B E A vE ex k F A') (hb : Below wr.heap.size wr w') : KI w w' B E A vE ex k F A' := ⟨h.b.below hb, h.r2, h.r3, h.l, h.bel.trans (hb.mono (Nat.le_of_lt h.b.hB))⟩
theorem KI.inner {w wr : World} {B : Nat} {E A : List Value} {vE : Value} {ex : List Elx} {k : Nat} {F : Nat → Rw} {A' : List Value} (h : KI w wr B E A vE ex k F A') {x : Elx} (hx : ex[k]? = some x) : KJ w wr B E A' vE ex k x F 0 :=
  ⟨h.b, h.r2, by rw [h.r3 k x (Nat.le_refl _) hx, fm_zero]; rfl, fun i y hi hy => h.r3 i y (Nat.le_of_lt hi) hy, h.bel⟩
theorem elR_own {W : World} {B : Nat} {F : Nat → Rw} {E A : List Value} {vE : Value} {ex : List Elx} {m k : Nat} (h : BK W B F E A) (r2 : F 2 = elR vE (fm (setE m) k ex)) : W.ownsRow (B + 1) 32 5 vE ex.length ((fm (setE m) k ex).flatMap elC) := by
  have := h.pf.own 2
  rw [r2] at this
  unfold Rw.own elR at this
  rwa [fm_len] at this
theorem KJ.step {w wr : World} {B : Nat} {E A' : List Value} {vE : Value} {ex : List Elx} {k : Nat} {x : Elx} {F : Nat → Rw} {q : Nat} (h : KJ w wr B E A' vE ex k x F q) (hq : q < x.e.ats.length) : ∃ g c, x.av = .slice (some ⟨g, 0, none⟩) x.e.ats.length c ∧ (∃ u, wr.cell? ⟨g, q * 3, none⟩ = some u) ∧ wr.frozen? ⟨g, q * 3, none⟩ = false ∧
    ∃ F', KJ w (wr.setCell ⟨g, q * 3, none⟩ (.string (mkS (A'.length / 2)))) B E A' vE ex k x F' (q + 1) := by
  have hO : wr.ownsRow (B + 1) 54 3 x.av x.e.ats.length (attCells (fm (setA (A'.length / 2)) q x.e.ats)) := by
    have := h.b.pf.own (3 + k)
    rw [h.r3] at this
    exact this
  obtain ⟨g, c, e⟩ := own_shape hO (by omega)
  obtain ⟨t, ht⟩ : ∃ t, x.e.ats[q]? = some t := ⟨x.e.ats[q], List.getElem?_eq_getElem hq⟩
  have hg := own_get (e ▸ hO) (o := q * 3) (u := .string t.nm) (by
    have := flat_get attC 3 (fun _ => rfl) (fm (setA (A'.length / 2)) q x.e.ats) q t ((fm_get _ _ (Nat.le_refl _)).trans ht) 0 (by decide)
    exact this)
  have hr3 := h.r3
  rw [e] at hr3
  refine ⟨g, c, e, ⟨_, hg.1⟩, hg.2.1, _, h.b.put (by omega) hr3 (q * 3) _, ?_, ?_, fun i y hi hy => ?_, h.bel.setCell (by have := hg.2.2.1; show B ≤ g; omega) _⟩
  · rw [upF_ne _ _ _ (by omega)]; exact h.r2
  · rw [upF_same, att_set ht, e]
  · rw [upF_ne _ _ _ (by omega)]; exact h.r4 i y hi hy
theorem KJ.name {w wr W' : World} {B : Nat} {E A A' A2 : List Value} {vE : Value} {ex : List Elx} {k : Nat} {x : Elx} {F F6 : Nat → Rw} {q : Nat} (h : KJ w wr B E A' vE ex k x F q) (hx : ex[k]? = some x) (hl : A'.length = A.length + 2 * k) (h6 : BK W' B F6 E A2) (hF : ∀ d, 2 ≤ d → d ≠ 3 + k → F6 d = F d) (hl2 : A2.length = A'.length + 2) (hB : Below B wr W') :
    ∃ g c, vE = .slice (some ⟨g, 0, none⟩) ex.length c ∧ (∃ u, W'.cell? ⟨g, k * 5 + 1, none⟩ = some u) ∧ W'.frozen? ⟨g, k * 5 + 1, none⟩ = false ∧ ∃ F', KI w (W'.setCell ⟨g, k * 5 + 1, none⟩ (.string (mkS (E.length / 2)))) B E A vE ex (k + 1) F' A2 := by
  have hk := (List.getElem?_eq_some_iff.1 hx).1
  have r2 : F6 2 = elR vE (fm (setE (E.length / 2)) k ex) := (hF 2 (by omega) (by omega)).trans h.r2
  have hO := elR_own h6 r2
  obtain ⟨g, c, e⟩ := own_shape hO (by omega)
  have hg := own_get (e ▸ hO) (o := k * 5 + 1) (u := .string x.e.nm) (flat_get elC 5 elC_len (fm (setE (E.length / 2)) k ex) k x ((fm_get _ _ (Nat.le_refl _)).trans hx) 1 (by decide))
  have r2' : F6 2 = ⟨32, 5, .slice (some ⟨g, 0, none⟩) ex.length c, ex.length, (fm (setE (E.length / 2)) k ex).flatMap elC⟩ := by
    rw [r2, ← e]
    unfold elR
    rw [fm_len]
  refine ⟨g, c, e, ⟨_, hg.1⟩, hg.2.1, _, h6.put (by omega) r2' (k * 5 + 1) _, ?_, fun i y hi hy => ?_, by omega, (h.bel.trans hB).setCell (by have := hg.2.2.1; show B ≤ g; omega) _⟩
  · rw [upF_same, ← els_set hx, e]
    unfold elR
    rw [fm_len]
  · rw [upF_ne _ _ _ (by omega), hF _ (by omega) (by omega)]
    exact h.r4 i y (by omega) hy
theorem KI.av {w wr : World} {B : Nat} {E A : List Value} {vE : Value} {ex : List Elx} {k : Nat} {F : Nat → Rw} {A' : List Value} (h : KI w wr B E A vE ex k F A') {x : Elx} (hx : ex[k]? = some x) : ∃ g c pa ca, vE = .slice (some ⟨g, 0, none⟩) ex.length c ∧ x.av = .slice pa x.e.ats.length ca ∧ wr.cell? ⟨g, k * 5 + 2, none⟩ = some (.slice pa x.e.ats.length ca) ∧ g < wr.heap.size := by
  have hk := (List.getElem?_eq_some_iff.1 hx).1
  have hO := elR_own h.b h.r2
  obtain ⟨g, c, e⟩ := own_shape hO (by omega)
  have hg := own_get (e ▸ hO) (o := k * 5 + 2) (u := x.av) (flat_get elC 5 elC_len (fm (setE (E.length / 2)) k ex) k x ((fm_get _ _ (Nat.le_refl _)).trans hx) 2 (by decide))
  have hA := h.b.pf.own (3 + k)
  rw [h.r3 k x (Nat.le_refl _) hx] at hA
  obtain ⟨pa, ca, e2⟩ := own_sl hA
  have e3 : x.av = .slice pa x.e.ats.length ca := e2
  exact ⟨g, c, pa, ca, e, e3, e3 ▸ hg.1, hg.2.2.2⟩
end Go.Proofs.YtchfphakhmifmabGreatDoor
namespace Go.Proofs.YtchfphakhmifmabGreatDoor
open Go.ChangeShapes Go.WideShapes Go.ChangeAt Go.RowKit Go.Lib

set_option maxRecDepth 100000 in
set_option maxHeartbeats 8000000 in
theorem keep_any (B : Nat) (f : Nat → Rw) (E A : List Value) (vE : Value) (ex : List Elx) (w : World) (h : BK w B f E A) (h2 : f 2 = elR vE ex) (ha : ∀ i x, ex[i]? = some x → f (3 + i) = atR x) (hex : ex.length ≤ 20000) (hat : ∀ x ∈ ex, x.e.ats.length ≤ 24) (hE : E.length ≤ 1000) (hA : A.length ≤ 900000) :
    Calls Tryz.prog 15 #[.pointer (some ⟨B, 0, none⟩), vE] w fun e w' => e = .returned (.tuple #[]) ∧ Below B w w' ∧ ∃ f' E' A', BK w' B f' E' A' ∧ E'.length = E.length + 2 ∧ A'.length = A.length + 2 * ex.length := by
  have hm := fun n (hn : n < 1000000000) W => mark_any n hn W
  have c0 := (bk_cells h).1
  obtain ⟨p0, q0, hv0⟩ := own_sl (bk_own0 h)
  rw [hv0] at c0
  have hI : KI w w B E A vE ex 0 f A := ⟨h, by rw [fm_zero]; exact h2, fun i x _ hx => ha i x hx, rfl, Below.refl _ _⟩
  have r1 : Int.tdiv (E.length : Int) 2 = ((E.length / 2 : Nat) : Int) := by rw [Int.tdiv_eq_ediv_of_nonneg (by omega)]; omega
  have r2 : IntKind.i64.wrap ((E.length / 2 : Nat) : Int) = ((E.length / 2 : Nat) : Int) := by rw [IntKind.wrap_i64]; omega
  have cM := hm (E.length / 2) (by omega) w
  obtain ⟨pe, ce, hve⟩ : ∃ p c, vE = .slice p ex.length c := by
    have := elR_own hI.b hI.r2
    exact own_sl this
  subst hve
  clear h2 ha h
  go_enter Tryz.func15, Tryz.ntmps15
  go_wp2_with (go_at_call 33; refine cM.mono ?_; rintro _ w1 ⟨rfl, hb1⟩; have hI1 := hI.below hb1; clear cM hI)
  go_loopw [5] (fun i wr => ∃ (k : Nat) (F : Nat → Rw) (A' : List Value), k ≤ ex.length ∧ i = .int .i64 (k : Int) ∧ KI w wr B E A (.slice pe ex.length ce) ex k F A') (fun i _ => ex.length - (RowKit.intOf i).toNat)
  case atStart => exact ⟨0, f, A, Nat.zero_le _, rfl, hI1⟩
  case round =>
    obtain ⟨k, F, A', hk, rfl, hI⟩ := hrel
    clear hI1 hb1 c0 hv0 r1 r2
    by_cases hlt : k < ex.length
    · obtain ⟨x, hx⟩ : ∃ x, ex[k]? = some x := ⟨ex[k], List.getElem?_eq_getElem hlt⟩
      have hn := hat x (List.mem_of_getElem? hx)
      obtain ⟨gE, cE, pa, ca, e1, hav, d2, hgE⟩ := hI.av hx
      injection e1 with e1 _ e2
      subst e1 e2
      have d1 := (bk_cells hI.b).2
      obtain ⟨p1, q1, hv1⟩ := own_sl (bk_own1 hI.b)
      rw [hv1] at d1
      have HlA := Hid.mkT hI.l
      have hlb : A'.length ≤ 940000 := by have := hI.l; omega
      have s1 : Int.tdiv (A'.length : Int) 2 = ((A'.length / 2 : Nat) : Int) := by rw [Int.tdiv_eq_ediv_of_nonneg (by omega)]; omega
      have s2 : IntKind.i64.wrap ((A'.length / 2 : Nat) : Int) = ((A'.length / 2 : Nat) : Int) := by rw [IntKind.wrap_i64]; omega
      have cM := (hm (A'.length / 2) (by omega) wr).mono (R' := fun e w2 => e = .returned (.string (mkS (A'.length / 2))) ∧ w2.cell? ⟨gE, k * 5 + 2, none⟩ = some (.slice pa x.e.ats.length ca) ∧ KI w w2 B E A (.slice (some ⟨gE, 0, none⟩) ex.length ce) ex k F A') fun e w2 ⟨h1, h2⟩ => ⟨h1, (h2.cell (p := ⟨gE, _, none⟩) hgE).trans d2, hI.below h2⟩
      have hlt' : (k : Int) < ex.length := by omega
      clear hI d2 hv1 hm hat
      go_wp2_with (go_at_call 33; refine cM.mono ?_; rintro _ w2 ⟨rfl, f2, hI2⟩; have hJ := hI2.inner hx; clear cM)
      go_loopw [8] (fun j wr' => ∃ (q : Nat) (F' : Nat → Rw), q ≤ x.e.ats.length ∧ j = .int .i64 (q : Int) ∧ KJ w wr' B E A' (.slice (some ⟨gE, 0, none⟩) ex.length ce) ex k x F' q) (fun j _ => x.e.ats.length - (RowKit.intOf j).toNat)
      case atStart => exact ⟨0, F, Nat.zero_le _, rfl, hJ⟩
      case round =>
        obtain ⟨q, F', hq, rfl, hJ'⟩ := hrel
        clear hJ hI2 f2 s1 s2 d1
        by_cases hql : q < x.e.ats.length
        · obtain ⟨ga, cga, eg, ⟨u, z1⟩, z2, F2, hJ2⟩ := hJ'.step hql
          rw [hav] at eg
          injection eg with eg _ eg2
          subst eg eg2
          have hql' : (q : Int) < x.e.ats.length := by omega
          go_wp2_with fail
          go_roundw
          case rel => exact ⟨q + 1, F2, by omega, by go_num, hJ2⟩
          case measure => simp [RowKit.intOf]; omega
        · obtain rfl : q = x.e.ats.length := by omega
          have hr3 := hJ'.r3
          rw [fm_all, hav] at hr3
          obtain ⟨pa2, ca2, pA, cA, p3, c3, w3, p5, c5, w5, eva, -, ⟨k0, k1, k3, k4, k5, k5f⟩, run1, run2, hBel, F6, h6, hF6⟩ := keepA hJ'.b (by omega) hr3 (by omega) (by omega)
          injection eva with eva _ eva2
          subst eva eva2
          obtain ⟨gE2, cE2, eE, ⟨u, y1⟩, y2, F7, h7⟩ := hJ'.name hx HlA.out h6 hF6 (by rw [List.length_append]; rfl) hBel
          injection eE with eE _ eE2
          injection eE with eE
          injection eE with eE
          subst eE eE2
          have HX : Hid (∃ (k' : Nat) (F : Nat → Rw) (A' : List Value), k' ≤ ex.length ∧ Value.int .i64 ((k : Int) + 1) = .int .i64 (k' : Int) ∧ KI w _ B E A (.slice (some ⟨gE, 0, none⟩) ex.length ce) ex k' F A') := Hid.mkT ⟨k + 1, F7, _, hlt, rfl, h7⟩
          clear h7 h6 hF6 hBel hJ' hr3 hx HlA hav
          generalize x.e.ats.length = N at *
          go_wp2_with fail
          refine wp_region_held_drew (S := fun _ => True) (by kernel_rfl) trivial (fun hHeld => ?_)
          refine wpAnyH_take (i := 0) (oi := { dst := some 45, op := Op.move (Operand.tmp 0), type := 41, pos := "law.go:156", after := #[], guard := none }) (v := ?v1) rfl (by kernel_rfl) (by kernel_rfl) (by kernel_rfl) (fun _ _ _ h => h) (Or.inl ⟨by rfl, ?hy1⟩) (by assumption) ?rest1
          case hy1 => (intro w hSw; (try dsimp only at hSw); go_simp <;> with_reducible rfl)
          try simp only [Act.put, List.setIfInBounds_toArray, List.set_cons_zero, List.set_cons_succ]
          refine wpAnyH_take (i := 1) (oi := { dst := some 46, op := Op.move (Operand.tmp 0), type := 41, pos := "law.go:156", after := #[], guard := none }) (v := ?v2) rfl (by kernel_rfl) (by kernel_rfl) (by kernel_rfl) (fun _ _ _ h => h) (Or.inl ⟨by rfl, ?hy2⟩) (by assumption) ?rest2
          case hy2 => (intro w hSw; (try dsimp only at hSw); go_simp <;> with_reducible rfl)
          try simp only [Act.put, List.setIfInBounds_toArray, List.set_cons_zero, List.set_cons_succ]
          refine wpAnyH_take (i := 2) (oi := { dst := some 47, op := Op.nilCheck (Operand.tmp 46), type := 0, pos := "law.go:156", after := #[{ on := 1, ground := Ground.data }], guard := none }) (v := ?v3) rfl (by kernel_rfl) (by kernel_rfl) (by kernel_rfl) (fun _ _ _ h => h) (Or.inl ⟨by rfl, ?hy3⟩) (by assumption) ?rest3
          case hy3 => (intro w hSw; (try dsimp only at hSw); go_simp <;> with_reducible rfl)
          try simp only [Act.put, List.setIfInBounds_toArray, List.set_cons_zero, List.set_cons_succ]
          refine wpAnyH_take (i := 3) (oi := { dst := some 48, op := Op.fieldAddr 45 (Operand.tmp 47) 1, type := 0, pos := "law.go:156", after := #[{ on := 2, ground := Ground.data }], guard := none }) (v := ?v4) rfl (by kernel_rfl) (by kernel_rfl) (by kernel_rfl) (fun _ _ _ h => h) (Or.inl ⟨by rfl, ?hy4⟩) (by assumption) ?rest4
          case hy4 => (intro w hSw; (try dsimp only at hSw); go_simp <;> with_reducible rfl)
          try simp only [Act.put, List.setIfInBounds_toArray, List.set_cons_zero, List.set_cons_succ]
          refine wpAnyH_take (i := 5) (oi := { dst := some 50, op := Op.move (Operand.tmp 7), type := 30, pos := "law.go:156", after := #[], guard := none }) (v := ?v5) rfl (by kernel_rfl) (by kernel_rfl) (by kernel_rfl) (fun _ _ _ h => h) (Or.inl ⟨by rfl, ?hy5⟩) (by assumption) ?rest5
          case hy5 => (intro w hSw; (try dsimp only at hSw); go_simp <;> with_reducible rfl)
          try simp only [Act.put, List.setIfInBounds_toArray, List.set_cons_zero, List.set_cons_succ]
          refine wpAnyH_take (i := 6) (oi := { dst := some 51, op := Op.move (Operand.tmp 7), type := 30, pos := "law.go:156", after := #[], guard := none }) (v := ?v6) rfl (by kernel_rfl) (by kernel_rfl) (by kernel_rfl) (fun _ _ _ h => h) (Or.inl ⟨by rfl, ?hy6⟩) (by assumption) ?rest6
          case hy6 => (intro w hSw; (try dsimp only at hSw); go_simp <;> with_reducible rfl)
          try simp only [Act.put, List.setIfInBounds_toArray, List.set_cons_zero, List.set_cons_succ]
          refine wpAnyH_take (i := 7) (oi := { dst := some 52, op := Op.move (Operand.tmp 6), type := 9, pos := "law.go:156", after := #[], guard := none }) (v := ?v7) rfl (by kernel_rfl) (by kernel_rfl) (by kernel_rfl) (fun _ _ _ h => h) (Or.inl ⟨by rfl, ?hy7⟩) (by assumption) ?rest7
          case hy7 => (intro w hSw; (try dsimp only at hSw); go_simp <;> with_reducible rfl)
          try simp only [Act.put, List.setIfInBounds_toArray, List.set_cons_zero, List.set_cons_succ]
          refine wpAnyH_take (i := 8) (oi := { dst := some 53, op := Op.build 54 #[(0, Operand.tmp 52)], type := 54, pos := "law.go:156", after := #[{ on := 7, ground := Ground.data }], guard := none }) (v := ?v8) rfl (by kernel_rfl) (by kernel_rfl) (by kernel_rfl) (fun _ _ _ h => h) (Or.inl ⟨by rfl, ?hy8⟩) (by assumption) ?rest8
          case hy8 => (intro w hSw; (try dsimp only at hSw); go_simp <;> with_reducible rfl)
          try simp only [Act.put, List.setIfInBounds_toArray, List.set_cons_zero, List.set_cons_succ]
          refine wpAnyH_ready (rs := [4, 9]) (by kernel_rfl) (by simp) (AllReadyH.cons (o := { dst := some 49, op := Op.load 43 (Operand.tmp 48), type := 43, pos := "law.go:156", after := #[{ on := 3, ground := Ground.data }], guard := none }) rfl (fun K hK => ?_) (AllReadyH.cons (o := { dst := some 54, op := Op.buildSlice 30 1 #[(0, Operand.tmp 53)], type := 30, pos := "law.go:156", after := #[{ on := 8, ground := Ground.data }], guard := none }) rfl (fun K hK => ?_) (AllReadyH.nil)))
          · go_simp
            refine hK.out _ _ trivial (fun hHeld => ?_)
            clear hK K
            try simp only [Act.put, List.setIfInBounds_toArray, List.set_cons_zero, List.set_cons_succ]
            refine wpAnyH_ready (rs := [9]) (by kernel_rfl) (by simp) (AllReadyH.cons (o := { dst := some 54, op := Op.buildSlice 30 1 #[(0, Operand.tmp 53)], type := 30, pos := "law.go:156", after := #[{ on := 8, ground := Ground.data }], guard := none }) rfl (fun K hK => ?_) (AllReadyH.nil))
            go_simp
            refine hK.out _ _ trivial (fun hHeld => ?_)
            clear hK K
            try simp only [Act.put, List.setIfInBounds_toArray, List.set_cons_zero, List.set_cons_succ]
            refine wpAnyH_ready (rs := [10]) (by kernel_rfl) (by simp) (AllReadyH.cons (o := { dst := some 55, op := Op.call { callee := Callee.builtin Builtin.append, args := #[Operand.tmp 51, Operand.tmp 54], argTypes := #[30, 30] }, type := 30, pos := "law.go:156", after := #[{ on := 6, ground := Ground.data }, { on := 9, ground := Ground.data }], guard := none }) rfl (fun K hK => ?_) (AllReadyH.nil))
            refine step_append_ex ?_ (.tmp 51) (.tmp 54) _ _ ?_ _ _ ?_ ?_ (fun a b => a = _ ∧ b = w3) ⟨_, w3, run1, rfl, rfl⟩ ?_
            · rfl
            · rfl
            · rfl
            · rfl
            rintro _ _ ⟨rfl, rfl⟩
            refine hK.out _ _ trivial (fun hHeld => ?_)
            clear hK K
            try simp only [Act.put, List.setIfInBounds_toArray, List.set_cons_zero, List.set_cons_succ]
            refine wpAnyH_ready (rs := [11]) (by kernel_rfl) (by simp) (AllReadyH.cons (o := { dst := some 56, op := Op.buildSlice 43 2 #[(0, Operand.tmp 50), (1, Operand.tmp 55)], type := 43, pos := "law.go:156", after := #[{ on := 5, ground := Ground.data }, { on := 10, ground := Ground.data }], guard := none }) rfl (fun K hK => ?_) (AllReadyH.nil))
            go_simp
            refine hK.out _ _ trivial (fun hHeld => ?_)
            clear hK K
            try simp only [Act.put, List.setIfInBounds_toArray, List.set_cons_zero, List.set_cons_succ]
            refine wpAnyH_ready (rs := [12]) (by kernel_rfl) (by simp) (AllReadyH.cons (o := { dst := some 57, op := Op.call { callee := Callee.builtin Builtin.append, args := #[Operand.tmp 49, Operand.tmp 56], argTypes := #[43, 43] }, type := 43, pos := "law.go:156", after := #[{ on := 4, ground := Ground.data }, { on := 11, ground := Ground.data }, { on := 10, ground := Ground.chain }], guard := none }) rfl (fun K hK => ?_) (AllReadyH.nil))
            refine step_append_ex ?_ (.tmp 49) (.tmp 56) _ _ ?_ _ _ ?_ ?_ (fun a b => a = _ ∧ b = w5) ⟨_, w5, run2, rfl, rfl⟩ ?_
            · rfl
            · rfl
            · rfl
            · rfl
            rintro _ _ ⟨rfl, rfl⟩
            refine hK.out _ _ trivial (fun hHeld => ?_)
            clear hK K
            try simp only [Act.put, List.setIfInBounds_toArray, List.set_cons_zero, List.set_cons_succ]
            refine wpAnyH_take (i := 13) (oi := { dst := some 58, op := Op.nilCheck (Operand.tmp 45), type := 0, pos := "law.go:156", after := #[{ on := 0, ground := Ground.data }, { on := 0, ground := Ground.phase }, { on := 1, ground := Ground.phase }, { on := 2, ground := Ground.phase }, { on := 3, ground := Ground.phase }, { on := 4, ground := Ground.phase }, { on := 5, ground := Ground.phase }, { on := 6, ground := Ground.phase }, { on := 7, ground := Ground.phase }, { on := 8, ground := Ground.phase }, { on := 9, ground := Ground.phase }, { on := 10, ground := Ground.phase }, { on := 11, ground := Ground.phase }, { on := 12, ground := Ground.phase }], guard := none }) (v := ?v9) rfl (by kernel_rfl) (by kernel_rfl) (by kernel_rfl) (fun _ _ _ h => h) (Or.inl ⟨by rfl, ?hy9⟩) (by assumption) ?rest9
            case hy9 => (intro w hSw; (try dsimp only at hSw); go_simp <;> with_reducible rfl)
            try simp only [Act.put, List.setIfInBounds_toArray, List.set_cons_zero, List.set_cons_succ]
            refine wpAnyH_take (i := 14) (oi := { dst := some 59, op := Op.fieldAddr 45 (Operand.tmp 58) 1, type := 0, pos := "law.go:156", after := #[{ on := 13, ground := Ground.data }, { on := 0, ground := Ground.phase }, { on := 1, ground := Ground.phase }, { on := 2, ground := Ground.phase }, { on := 3, ground := Ground.phase }, { on := 4, ground := Ground.phase }, { on := 5, ground := Ground.phase }, { on := 6, ground := Ground.phase }, { on := 7, ground := Ground.phase }, { on := 8, ground := Ground.phase }, { on := 9, ground := Ground.phase }, { on := 10, ground := Ground.phase }, { on := 11, ground := Ground.phase }, { on := 12, ground := Ground.phase }], guard := none }) (v := ?v10) rfl (by kernel_rfl) (by kernel_rfl) (by kernel_rfl) (fun _ _ _ h => h) (Or.inl ⟨by rfl, ?hy10⟩) (by assumption) ?rest10
            case hy10 => (intro w hSw; (try dsimp only at hSw); go_simp <;> with_reducible rfl)
            try simp only [Act.put, List.setIfInBounds_toArray, List.set_cons_zero, List.set_cons_succ]
            refine wpAnyH_ready (rs := [15]) (by kernel_rfl) (by simp) (AllReadyH.cons (o := { dst := none, op := Op.store 43 (Operand.tmp 59) (Operand.tmp 57), type := 0, pos := "law.go:156", after := #[{ on := 14, ground := Ground.data }, { on := 12, ground := Ground.data }, { on := 12, ground := Ground.chain }, { on := 0, ground := Ground.phase }, { on := 1, ground := Ground.phase }, { on := 2, ground := Ground.phase }, { on := 3, ground := Ground.phase }, { on := 4, ground := Ground.phase }, { on := 5, ground := Ground.phase }, { on := 6, ground := Ground.phase }, { on := 7, ground := Ground.phase }, { on := 8, ground := Ground.phase }, { on := 9, ground := Ground.phase }, { on := 10, ground := Ground.phase }, { on := 11, ground := Ground.phase }, { on := 12, ground := Ground.phase }], guard := none }) rfl (fun K hK => ?_) (AllReadyH.nil))
            go_simp
            refine hK.out _ _ trivial (fun hHeld => ?_)
            clear hK K
            try simp only [Act.put, List.setIfInBounds_toArray, List.set_cons_zero, List.set_cons_succ]
            refine wpAnyH_done (by kernel_rfl) ?_ _
            go_wp2_with fail
            go_roundw
            case rel => exact HX.out
            case measure => simp [RowKit.intOf]; omega
          · go_simp
            refine hK.out _ _ trivial (fun hHeld => ?_)
            clear hK K
            try simp only [Act.put, List.setIfInBounds_toArray, List.set_cons_zero, List.set_cons_succ]
            refine wpAnyH_ready (rs := [4, 10]) (by kernel_rfl) (by simp) (AllReadyH.cons (o := { dst := some 49, op := Op.load 43 (Operand.tmp 48), type := 43, pos := "law.go:156", after := #[{ on := 3, ground := Ground.data }], guard := none }) rfl (fun K hK => ?_) (AllReadyH.cons (o := { dst := some 55, op := Op.call { callee := Callee.builtin Builtin.append, args := #[Operand.tmp 51, Operand.tmp 54], argTypes := #[30, 30] }, type := 30, pos := "law.go:156", after := #[{ on := 6, ground := Ground.data }, { on := 9, ground := Ground.data }], guard := none }) rfl (fun K hK => ?_) (AllReadyH.nil)))
            · go_simp
              refine hK.out _ _ trivial (fun hHeld => ?_)
              clear hK K
              try simp only [Act.put, List.setIfInBounds_toArray, List.set_cons_zero, List.set_cons_succ]
              refine wpAnyH_ready (rs := [10]) (by kernel_rfl) (by simp) (AllReadyH.cons (o := { dst := some 55, op := Op.call { callee := Callee.builtin Builtin.append, args := #[Operand.tmp 51, Operand.tmp 54], argTypes := #[30, 30] }, type := 30, pos := "law.go:156", after := #[{ on := 6, ground := Ground.data }, { on := 9, ground := Ground.data }], guard := none }) rfl (fun K hK => ?_) (AllReadyH.nil))
              refine step_append_ex ?_ (.tmp 51) (.tmp 54) _ _ ?_ _ _ ?_ ?_ (fun a b => a = _ ∧ b = w3) ⟨_, w3, run1, rfl, rfl⟩ ?_
              · rfl
              · rfl
              · rfl
              · rfl
              rintro _ _ ⟨rfl, rfl⟩
              refine hK.out _ _ trivial (fun hHeld => ?_)
              clear hK K
              try simp only [Act.put, List.setIfInBounds_toArray, List.set_cons_zero, List.set_cons_succ]
              refine wpAnyH_ready (rs := [11]) (by kernel_rfl) (by simp) (AllReadyH.cons (o := { dst := some 56, op := Op.buildSlice 43 2 #[(0, Operand.tmp 50), (1, Operand.tmp 55)], type := 43, pos := "law.go:156", after := #[{ on := 5, ground := Ground.data }, { on := 10, ground := Ground.data }], guard := none }) rfl (fun K hK => ?_) (AllReadyH.nil))
              go_simp
              refine hK.out _ _ trivial (fun hHeld => ?_)
              clear hK K
              try simp only [Act.put, List.setIfInBounds_toArray, List.set_cons_zero, List.set_cons_succ]
              refine wpAnyH_ready (rs := [12]) (by kernel_rfl) (by simp) (AllReadyH.cons (o := { dst := some 57, op := Op.call { callee := Callee.builtin Builtin.append, args := #[Operand.tmp 49, Operand.tmp 56], argTypes := #[43, 43] }, type := 43, pos := "law.go:156", after := #[{ on := 4, ground := Ground.data }, { on := 11, ground := Ground.data }, { on := 10, ground := Ground.chain }], guard := none }) rfl (fun K hK => ?_) (AllReadyH.nil))
              refine step_append_ex ?_ (.tmp 49) (.tmp 56) _ _ ?_ _ _ ?_ ?_ (fun a b => a = _ ∧ b = w5) ⟨_, w5, run2, rfl, rfl⟩ ?_
              · rfl
              · rfl
              · rfl
              · rfl
              rintro _ _ ⟨rfl, rfl⟩
              refine hK.out _ _ trivial (fun hHeld => ?_)
              clear hK K
              try simp only [Act.put, List.setIfInBounds_toArray, List.set_cons_zero, List.set_cons_succ]
              refine wpAnyH_take (i := 13) (oi := { dst := some 58, op := Op.nilCheck (Operand.tmp 45), type := 0, pos := "law.go:156", after := #[{ on := 0, ground := Ground.data }, { on := 0, ground := Ground.phase }, { on := 1, ground := Ground.phase }, { on := 2, ground := Ground.phase }, { on := 3, ground := Ground.phase }, { on := 4, ground := Ground.phase }, { on := 5, ground := Ground.phase }, { on := 6, ground := Ground.phase }, { on := 7, ground := Ground.phase }, { on := 8, ground := Ground.phase }, { on := 9, ground := Ground.phase }, { on := 10, ground := Ground.phase }, { on := 11, ground := Ground.phase }, { on := 12, ground := Ground.phase }], guard := none }) (v := ?v11) rfl (by kernel_rfl) (by kernel_rfl) (by kernel_rfl) (fun _ _ _ h => h) (Or.inl ⟨by rfl, ?hy11⟩) (by assumption) ?rest11
              case hy11 => (intro w hSw; (try dsimp only at hSw); go_simp <;> with_reducible rfl)
              try simp only [Act.put, List.setIfInBounds_toArray, List.set_cons_zero, List.set_cons_succ]
              refine wpAnyH_take (i := 14) (oi := { dst := some 59, op := Op.fieldAddr 45 (Operand.tmp 58) 1, type := 0, pos := "law.go:156", after := #[{ on := 13, ground := Ground.data }, { on := 0, ground := Ground.phase }, { on := 1, ground := Ground.phase }, { on := 2, ground := Ground.phase }, { on := 3, ground := Ground.phase }, { on := 4, ground := Ground.phase }, { on := 5, ground := Ground.phase }, { on := 6, ground := Ground.phase }, { on := 7, ground := Ground.phase }, { on := 8, ground := Ground.phase }, { on := 9, ground := Ground.phase }, { on := 10, ground := Ground.phase }, { on := 11, ground := Ground.phase }, { on := 12, ground := Ground.phase }], guard := none }) (v := ?v12) rfl (by kernel_rfl) (by kernel_rfl) (by kernel_rfl) (fun _ _ _ h => h) (Or.inl ⟨by rfl, ?hy12⟩) (by assumption) ?rest12
              case hy12 => (intro w hSw; (try dsimp only at hSw); go_simp <;> with_reducible rfl)
              try simp only [Act.put, List.setIfInBounds_toArray, List.set_cons_zero, List.set_cons_succ]
              refine wpAnyH_ready (rs := [15]) (by kernel_rfl) (by simp) (AllReadyH.cons (o := { dst := none, op := Op.store 43 (Operand.tmp 59) (Operand.tmp 57), type := 0, pos := "law.go:156", after := #[{ on := 14, ground := Ground.data }, { on := 12, ground := Ground.data }, { on := 12, ground := Ground.chain }, { on := 0, ground := Ground.phase }, { on := 1, ground := Ground.phase }, { on := 2, ground := Ground.phase }, { on := 3, ground := Ground.phase }, { on := 4, ground := Ground.phase }, { on := 5, ground := Ground.phase }, { on := 6, ground := Ground.phase }, { on := 7, ground := Ground.phase }, { on := 8, ground := Ground.phase }, { on := 9, ground := Ground.phase }, { on := 10, ground := Ground.phase }, { on := 11, ground := Ground.phase }, { on := 12, ground := Ground.phase }], guard := none }) rfl (fun K hK => ?_) (AllReadyH.nil))
              go_simp
              refine hK.out _ _ trivial (fun hHeld => ?_)
              clear hK K
              try simp only [Act.put, List.setIfInBounds_toArray, List.set_cons_zero, List.set_cons_succ]
              refine wpAnyH_done (by kernel_rfl) ?_ _
              go_wp2_with fail
              go_roundw
              case rel => exact HX.out
              case measure => simp [RowKit.intOf]; omega
            · refine step_append_ex ?_ (.tmp 51) (.tmp 54) _ _ ?_ _ _ ?_ ?_ (fun a b => a = _ ∧ b = w3) ⟨_, w3, run1, rfl, rfl⟩ ?_
              · rfl
              · rfl
              · rfl
              · rfl
              rintro _ _ ⟨rfl, rfl⟩
              refine hK.out _ _ trivial (fun hHeld => ?_)
              clear hK K
              try simp only [Act.put, List.setIfInBounds_toArray, List.set_cons_zero, List.set_cons_succ]
              refine wpAnyH_ready (rs := [4, 11]) (by kernel_rfl) (by simp) (AllReadyH.cons (o := { dst := some 49, op := Op.load 43 (Operand.tmp 48), type := 43, pos := "law.go:156", after := #[{ on := 3, ground := Ground.data }], guard := none }) rfl (fun K hK => ?_) (AllReadyH.cons (o := { dst := some 56, op := Op.buildSlice 43 2 #[(0, Operand.tmp 50), (1, Operand.tmp 55)], type := 43, pos := "law.go:156", after := #[{ on := 5, ground := Ground.data }, { on := 10, ground := Ground.data }], guard := none }) rfl (fun K hK => ?_) (AllReadyH.nil)))
              · go_simp
                refine hK.out _ _ trivial (fun hHeld => ?_)
                clear hK K
                try simp only [Act.put, List.setIfInBounds_toArray, List.set_cons_zero, List.set_cons_succ]
                refine wpAnyH_ready (rs := [11]) (by kernel_rfl) (by simp) (AllReadyH.cons (o := { dst := some 56, op := Op.buildSlice 43 2 #[(0, Operand.tmp 50), (1, Operand.tmp 55)], type := 43, pos := "law.go:156", after := #[{ on := 5, ground := Ground.data }, { on := 10, ground := Ground.data }], guard := none }) rfl (fun K hK => ?_) (AllReadyH.nil))
                go_simp
                refine hK.out _ _ trivial (fun hHeld => ?_)
                clear hK K
                try simp only [Act.put, List.setIfInBounds_toArray, List.set_cons_zero, List.set_cons_succ]
                refine wpAnyH_ready (rs := [12]) (by kernel_rfl) (by simp) (AllReadyH.cons (o := { dst := some 57, op := Op.call { callee := Callee.builtin Builtin.append, args := #[Operand.tmp 49, Operand.tmp 56], argTypes := #[43, 43] }, type := 43, pos := "law.go:156", after := #[{ on := 4, ground := Ground.data }, { on := 11, ground := Ground.data }, { on := 10, ground := Ground.chain }], guard := none }) rfl (fun K hK => ?_) (AllReadyH.nil))
                refine step_append_ex ?_ (.tmp 49) (.tmp 56) _ _ ?_ _ _ ?_ ?_ (fun a b => a = _ ∧ b = w5) ⟨_, w5, run2, rfl, rfl⟩ ?_
                · rfl
                · rfl
                · rfl
                · rfl
                rintro _ _ ⟨rfl, rfl⟩
                refine hK.out _ _ trivial (fun hHeld => ?_)
                clear hK K
                try simp only [Act.put, List.setIfInBounds_toArray, List.set_cons_zero, List.set_cons_succ]
                refine wpAnyH_take (i := 13) (oi := { dst := some 58, op := Op.nilCheck (Operand.tmp 45), type := 0, pos := "law.go:156", after := #[{ on := 0, ground := Ground.data }, { on := 0, ground := Ground.phase }, { on := 1, ground := Ground.phase }, { on := 2, ground := Ground.phase }, { on := 3, ground := Ground.phase }, { on := 4, ground := Ground.phase }, { on := 5, ground := Ground.phase }, { on := 6, ground := Ground.phase }, { on := 7, ground := Ground.phase }, { on := 8, ground := Ground.phase }, { on := 9, ground := Ground.phase }, { on := 10, ground := Ground.phase }, { on := 11, ground := Ground.phase }, { on := 12, ground := Ground.phase }], guard := none }) (v := ?v13) rfl (by kernel_rfl) (by kernel_rfl) (by kernel_rfl) (fun _ _ _ h => h) (Or.inl ⟨by rfl, ?hy13⟩) (by assumption) ?rest13
                case hy13 => (intro w hSw; (try dsimp only at hSw); go_simp <;> with_reducible rfl)
                try simp only [Act.put, List.setIfInBounds_toArray, List.set_cons_zero, List.set_cons_succ]
                refine wpAnyH_take (i := 14) (oi := { dst := some 59, op := Op.fieldAddr 45 (Operand.tmp 58) 1, type := 0, pos := "law.go:156", after := #[{ on := 13, ground := Ground.data }, { on := 0, ground := Ground.phase }, { on := 1, ground := Ground.phase }, { on := 2, ground := Ground.phase }, { on := 3, ground := Ground.phase }, { on := 4, ground := Ground.phase }, { on := 5, ground := Ground.phase }, { on := 6, ground := Ground.phase }, { on := 7, ground := Ground.phase }, { on := 8, ground := Ground.phase }, { on := 9, ground := Ground.phase }, { on := 10, ground := Ground.phase }, { on := 11, ground := Ground.phase }, { on := 12, ground := Ground.phase }], guard := none }) (v := ?v14) rfl (by kernel_rfl) (by kernel_rfl) (by kernel_rfl) (fun _ _ _ h => h) (Or.inl ⟨by rfl, ?hy14⟩) (by assumption) ?rest14
                case hy14 => (intro w hSw; (try dsimp only at hSw); go_simp <;> with_reducible rfl)
                try simp only [Act.put, List.setIfInBounds_toArray, List.set_cons_zero, List.set_cons_succ]
                refine wpAnyH_ready (rs := [15]) (by kernel_rfl) (by simp) (AllReadyH.cons (o := { dst := none, op := Op.store 43 (Operand.tmp 59) (Operand.tmp 57), type := 0, pos := "law.go:156", after := #[{ on := 14, ground := Ground.data }, { on := 12, ground := Ground.data }, { on := 12, ground := Ground.chain }, { on := 0, ground := Ground.phase }, { on := 1, ground := Ground.phase }, { on := 2, ground := Ground.phase }, { on := 3, ground := Ground.phase }, { on := 4, ground := Ground.phase }, { on := 5, ground := Ground.phase }, { on := 6, ground := Ground.phase }, { on := 7, ground := Ground.phase }, { on := 8, ground := Ground.phase }, { on := 9, ground := Ground.phase }, { on := 10, ground := Ground.phase }, { on := 11, ground := Ground.phase }, { on := 12, ground := Ground.phase }], guard := none }) rfl (fun K hK => ?_) (AllReadyH.nil))
                go_simp
                refine hK.out _ _ trivial (fun hHeld => ?_)
                clear hK K
                try simp only [Act.put, List.setIfInBounds_toArray, List.set_cons_zero, List.set_cons_succ]
                refine wpAnyH_done (by kernel_rfl) ?_ _
                go_wp2_with fail
                go_roundw
                case rel => exact HX.out
                case measure => simp [RowKit.intOf]; omega
              · go_simp
                refine hK.out _ _ trivial (fun hHeld => ?_)
                clear hK K
                try simp only [Act.put, List.setIfInBounds_toArray, List.set_cons_zero, List.set_cons_succ]
                refine wpAnyH_ready (rs := [4]) (by kernel_rfl) (by simp) (AllReadyH.cons (o := { dst := some 49, op := Op.load 43 (Operand.tmp 48), type := 43, pos := "law.go:156", after := #[{ on := 3, ground := Ground.data }], guard := none }) rfl (fun K hK => ?_) (AllReadyH.nil))
                go_simp
                refine hK.out _ _ trivial (fun hHeld => ?_)
                clear hK K
                try simp only [Act.put, List.setIfInBounds_toArray, List.set_cons_zero, List.set_cons_succ]
                refine wpAnyH_ready (rs := [12]) (by kernel_rfl) (by simp) (AllReadyH.cons (o := { dst := some 57, op := Op.call { callee := Callee.builtin Builtin.append, args := #[Operand.tmp 49, Operand.tmp 56], argTypes := #[43, 43] }, type := 43, pos := "law.go:156", after := #[{ on := 4, ground := Ground.data }, { on := 11, ground := Ground.data }, { on := 10, ground := Ground.chain }], guard := none }) rfl (fun K hK => ?_) (AllReadyH.nil))
                refine step_append_ex ?_ (.tmp 49) (.tmp 56) _ _ ?_ _ _ ?_ ?_ (fun a b => a = _ ∧ b = w5) ⟨_, w5, run2, rfl, rfl⟩ ?_
                · rfl
                · rfl
                · rfl
                · rfl
                rintro _ _ ⟨rfl, rfl⟩
                refine hK.out _ _ trivial (fun hHeld => ?_)
                clear hK K
                try simp only [Act.put, List.setIfInBounds_toArray, List.set_cons_zero, List.set_cons_succ]
                refine wpAnyH_take (i := 13) (oi := { dst := some 58, op := Op.nilCheck (Operand.tmp 45), type := 0, pos := "law.go:156", after := #[{ on := 0, ground := Ground.data }, { on := 0, ground := Ground.phase }, { on := 1, ground := Ground.phase }, { on := 2, ground := Ground.phase }, { on := 3, ground := Ground.phase }, { on := 4, ground := Ground.phase }, { on := 5, ground := Ground.phase }, { on := 6, ground := Ground.phase }, { on := 7, ground := Ground.phase }, { on := 8, ground := Ground.phase }, { on := 9, ground := Ground.phase }, { on := 10, ground := Ground.phase }, { on := 11, ground := Ground.phase }, { on := 12, ground := Ground.phase }], guard := none }) (v := ?v15) rfl (by kernel_rfl) (by kernel_rfl) (by kernel_rfl) (fun _ _ _ h => h) (Or.inl ⟨by rfl, ?hy15⟩) (by assumption) ?rest15
                case hy15 => (intro w hSw; (try dsimp only at hSw); go_simp <;> with_reducible rfl)
                try simp only [Act.put, List.setIfInBounds_toArray, List.set_cons_zero, List.set_cons_succ]
                refine wpAnyH_take (i := 14) (oi := { dst := some 59, op := Op.fieldAddr 45 (Operand.tmp 58) 1, type := 0, pos := "law.go:156", after := #[{ on := 13, ground := Ground.data }, { on := 0, ground := Ground.phase }, { on := 1, ground := Ground.phase }, { on := 2, ground := Ground.phase }, { on := 3, ground := Ground.phase }, { on := 4, ground := Ground.phase }, { on := 5, ground := Ground.phase }, { on := 6, ground := Ground.phase }, { on := 7, ground := Ground.phase }, { on := 8, ground := Ground.phase }, { on := 9, ground := Ground.phase }, { on := 10, ground := Ground.phase }, { on := 11, ground := Ground.phase }, { on := 12, ground := Ground.phase }], guard := none }) (v := ?v16) rfl (by kernel_rfl) (by kernel_rfl) (by kernel_rfl) (fun _ _ _ h => h) (Or.inl ⟨by rfl, ?hy16⟩) (by assumption) ?rest16
                case hy16 => (intro w hSw; (try dsimp only at hSw); go_simp <;> with_reducible rfl)
                try simp only [Act.put, List.setIfInBounds_toArray, List.set_cons_zero, List.set_cons_succ]
                refine wpAnyH_ready (rs := [15]) (by kernel_rfl) (by simp) (AllReadyH.cons (o := { dst := none, op := Op.store 43 (Operand.tmp 59) (Operand.tmp 57), type := 0, pos := "law.go:156", after := #[{ on := 14, ground := Ground.data }, { on := 12, ground := Ground.data }, { on := 12, ground := Ground.chain }, { on := 0, ground := Ground.phase }, { on := 1, ground := Ground.phase }, { on := 2, ground := Ground.phase }, { on := 3, ground := Ground.phase }, { on := 4, ground := Ground.phase }, { on := 5, ground := Ground.phase }, { on := 6, ground := Ground.phase }, { on := 7, ground := Ground.phase }, { on := 8, ground := Ground.phase }, { on := 9, ground := Ground.phase }, { on := 10, ground := Ground.phase }, { on := 11, ground := Ground.phase }, { on := 12, ground := Ground.phase }], guard := none }) rfl (fun K hK => ?_) (AllReadyH.nil))
                go_simp
                refine hK.out _ _ trivial (fun hHeld => ?_)
                clear hK K
                try simp only [Act.put, List.setIfInBounds_toArray, List.set_cons_zero, List.set_cons_succ]
                refine wpAnyH_done (by kernel_rfl) ?_ _
                go_wp2_with fail
                go_roundw
                case rel => exact HX.out
                case measure => simp [RowKit.intOf]; omega
    · obtain rfl : k = ex.length := by omega
      have hr2 := hI.r2
      rw [fm_all] at hr2
      have hr2' : F 2 = ⟨32, 5, .slice pe ex.length ce, ex.length, (ex.map (setE (E.length / 2))).flatMap elC⟩ := by
        rw [hr2]
        unfold elR
        rw [List.length_map]
      obtain ⟨pa2, ca2, pA, cA, p3, c3, w3, p5, c5, w5, eva, -, ⟨k0, k1, k3, k4, k5, k5f⟩, run1, run2, hBel, F6, h6, hF6⟩ := keepE hI.b (by decide) hr2' (by omega) (by omega)
      injection eva with eva _ eva2
      subst eva eva2
      have HX : Hid (Below B w (w5.setCell ⟨B, 0, none⟩ (.slice p5 (E.length + 2) c5)) ∧ ∃ f' E' A', BK (w5.setCell ⟨B, 0, none⟩ (.slice p5 (E.length + 2) c5)) B f' E' A' ∧ E'.length = E.length + 2 ∧ A'.length = A.length + 2 * ex.length) := Hid.mkT ⟨hI.bel.trans hBel, F6, _, _, h6, by rw [List.length_append]; rfl, hI.l⟩
      clear h6 hF6 hBel hI hr2 hr2' hat hm
      go_wp2_with fail
      refine wp_region_held_drew (S := fun _ => True) (by kernel_rfl) trivial (fun hHeld => ?_)
      refine wpAnyH_take (i := 0) (oi := { dst := some 65, op := Op.move (Operand.tmp 0), type := 41, pos := "law.go:159", after := #[], guard := none }) (v := ?v17) rfl (by kernel_rfl) (by kernel_rfl) (by kernel_rfl) (fun _ _ _ h => h) (Or.inl ⟨by rfl, ?hy17⟩) (by assumption) ?rest17
      case hy17 => (intro w hSw; (try dsimp only at hSw); go_simp <;> with_reducible rfl)
      try simp only [Act.put, List.setIfInBounds_toArray, List.set_cons_zero, List.set_cons_succ]
      refine wpAnyH_take (i := 1) (oi := { dst := some 66, op := Op.move (Operand.tmp 0), type := 41, pos := "law.go:159", after := #[], guard := none }) (v := ?v18) rfl (by kernel_rfl) (by kernel_rfl) (by kernel_rfl) (fun _ _ _ h => h) (Or.inl ⟨by rfl, ?hy18⟩) (by assumption) ?rest18
      case hy18 => (intro w hSw; (try dsimp only at hSw); go_simp <;> with_reducible rfl)
      try simp only [Act.put, List.setIfInBounds_toArray, List.set_cons_zero, List.set_cons_succ]
      refine wpAnyH_take (i := 2) (oi := { dst := some 67, op := Op.nilCheck (Operand.tmp 66), type := 0, pos := "law.go:159", after := #[{ on := 1, ground := Ground.data }], guard := none }) (v := ?v19) rfl (by kernel_rfl) (by kernel_rfl) (by kernel_rfl) (fun _ _ _ h => h) (Or.inl ⟨by rfl, ?hy19⟩) (by assumption) ?rest19
      case hy19 => (intro w hSw; (try dsimp only at hSw); go_simp <;> with_reducible rfl)
      try simp only [Act.put, List.setIfInBounds_toArray, List.set_cons_zero, List.set_cons_succ]
      refine wpAnyH_take (i := 3) (oi := { dst := some 68, op := Op.fieldAddr 45 (Operand.tmp 67) 0, type := 0, pos := "law.go:159", after := #[{ on := 2, ground := Ground.data }], guard := none }) (v := ?v20) rfl (by kernel_rfl) (by kernel_rfl) (by kernel_rfl) (fun _ _ _ h => h) (Or.inl ⟨by rfl, ?hy20⟩) (by assumption) ?rest20
      case hy20 => (intro w hSw; (try dsimp only at hSw); go_simp <;> with_reducible rfl)
      try simp only [Act.put, List.setIfInBounds_toArray, List.set_cons_zero, List.set_cons_succ]
      refine wpAnyH_take (i := 5) (oi := { dst := some 70, op := Op.move (Operand.tmp 1), type := 24, pos := "law.go:159", after := #[], guard := none }) (v := ?v21) rfl (by kernel_rfl) (by kernel_rfl) (by kernel_rfl) (fun _ _ _ h => h) (Or.inl ⟨by rfl, ?hy21⟩) (by assumption) ?rest21
      case hy21 => (intro w hSw; (try dsimp only at hSw); go_simp <;> with_reducible rfl)
      try simp only [Act.put, List.setIfInBounds_toArray, List.set_cons_zero, List.set_cons_succ]
      refine wpAnyH_take (i := 6) (oi := { dst := some 71, op := Op.move (Operand.tmp 1), type := 24, pos := "law.go:159", after := #[], guard := none }) (v := ?v22) rfl (by kernel_rfl) (by kernel_rfl) (by kernel_rfl) (fun _ _ _ h => h) (Or.inl ⟨by rfl, ?hy22⟩) (by assumption) ?rest22
      case hy22 => (intro w hSw; (try dsimp only at hSw); go_simp <;> with_reducible rfl)
      try simp only [Act.put, List.setIfInBounds_toArray, List.set_cons_zero, List.set_cons_succ]
      refine wpAnyH_take (i := 7) (oi := { dst := some 72, op := Op.move (Operand.tmp 4), type := 9, pos := "law.go:159", after := #[], guard := none }) (v := ?v23) rfl (by kernel_rfl) (by kernel_rfl) (by kernel_rfl) (fun _ _ _ h => h) (Or.inl ⟨by rfl, ?hy23⟩) (by assumption) ?rest23
      case hy23 => (intro w hSw; (try dsimp only at hSw); go_simp <;> with_reducible rfl)
      try simp only [Act.put, List.setIfInBounds_toArray, List.set_cons_zero, List.set_cons_succ]
      refine wpAnyH_take (i := 8) (oi := { dst := some 73, op := Op.build 32 #[(1, Operand.tmp 72)], type := 32, pos := "law.go:159", after := #[{ on := 7, ground := Ground.data }], guard := none }) (v := ?v24) rfl (by kernel_rfl) (by kernel_rfl) (by kernel_rfl) (fun _ _ _ h => h) (Or.inl ⟨by rfl, ?hy24⟩) (by assumption) ?rest24
      case hy24 => (intro w hSw; (try dsimp only at hSw); go_simp <;> with_reducible rfl)
      try simp only [Act.put, List.setIfInBounds_toArray, List.set_cons_zero, List.set_cons_succ]
      refine wpAnyH_ready (rs := [4, 9]) (by kernel_rfl) (by simp) (AllReadyH.cons (o := { dst := some 69, op := Op.load 42 (Operand.tmp 68), type := 42, pos := "law.go:159", after := #[{ on := 3, ground := Ground.data }], guard := none }) rfl (fun K hK => ?_) (AllReadyH.cons (o := { dst := some 74, op := Op.buildSlice 24 1 #[(0, Operand.tmp 73)], type := 24, pos := "law.go:159", after := #[{ on := 8, ground := Ground.data }], guard := none }) rfl (fun K hK => ?_) (AllReadyH.nil)))
      · go_simp
        refine hK.out _ _ trivial (fun hHeld => ?_)
        clear hK K
        try simp only [Act.put, List.setIfInBounds_toArray, List.set_cons_zero, List.set_cons_succ]
        refine wpAnyH_ready (rs := [9]) (by kernel_rfl) (by simp) (AllReadyH.cons (o := { dst := some 74, op := Op.buildSlice 24 1 #[(0, Operand.tmp 73)], type := 24, pos := "law.go:159", after := #[{ on := 8, ground := Ground.data }], guard := none }) rfl (fun K hK => ?_) (AllReadyH.nil))
        go_simp
        refine hK.out _ _ trivial (fun hHeld => ?_)
        clear hK K
        try simp only [Act.put, List.setIfInBounds_toArray, List.set_cons_zero, List.set_cons_succ]
        refine wpAnyH_ready (rs := [10]) (by kernel_rfl) (by simp) (AllReadyH.cons (o := { dst := some 75, op := Op.call { callee := Callee.builtin Builtin.append, args := #[Operand.tmp 71, Operand.tmp 74], argTypes := #[24, 24] }, type := 24, pos := "law.go:159", after := #[{ on := 6, ground := Ground.data }, { on := 9, ground := Ground.data }], guard := none }) rfl (fun K hK => ?_) (AllReadyH.nil))
        refine step_append_ex ?_ (.tmp 71) (.tmp 74) _ _ ?_ _ _ ?_ ?_ (fun a b => a = _ ∧ b = w3) ⟨_, w3, run1, rfl, rfl⟩ ?_
        · rfl
        · rfl
        · rfl
        · rfl
        rintro _ _ ⟨rfl, rfl⟩
        refine hK.out _ _ trivial (fun hHeld => ?_)
        clear hK K
        try simp only [Act.put, List.setIfInBounds_toArray, List.set_cons_zero, List.set_cons_succ]
        refine wpAnyH_ready (rs := [11]) (by kernel_rfl) (by simp) (AllReadyH.cons (o := { dst := some 76, op := Op.buildSlice 42 2 #[(0, Operand.tmp 70), (1, Operand.tmp 75)], type := 42, pos := "law.go:159", after := #[{ on := 5, ground := Ground.data }, { on := 10, ground := Ground.data }], guard := none }) rfl (fun K hK => ?_) (AllReadyH.nil))
        go_simp
        refine hK.out _ _ trivial (fun hHeld => ?_)
        clear hK K
        try simp only [Act.put, List.setIfInBounds_toArray, List.set_cons_zero, List.set_cons_succ]
        refine wpAnyH_ready (rs := [12]) (by kernel_rfl) (by simp) (AllReadyH.cons (o := { dst := some 77, op := Op.call { callee := Callee.builtin Builtin.append, args := #[Operand.tmp 69, Operand.tmp 76], argTypes := #[42, 42] }, type := 42, pos := "law.go:159", after := #[{ on := 4, ground := Ground.data }, { on := 11, ground := Ground.data }, { on := 10, ground := Ground.chain }], guard := none }) rfl (fun K hK => ?_) (AllReadyH.nil))
        refine step_append_ex ?_ (.tmp 69) (.tmp 76) _ _ ?_ _ _ ?_ ?_ (fun a b => a = _ ∧ b = w5) ⟨_, w5, run2, rfl, rfl⟩ ?_
        · rfl
        · rfl
        · rfl
        · rfl
        rintro _ _ ⟨rfl, rfl⟩
        refine hK.out _ _ trivial (fun hHeld => ?_)
        clear hK K
        try simp only [Act.put, List.setIfInBounds_toArray, List.set_cons_zero, List.set_cons_succ]
        refine wpAnyH_take (i := 13) (oi := { dst := some 78, op := Op.nilCheck (Operand.tmp 65), type := 0, pos := "law.go:159", after := #[{ on := 0, ground := Ground.data }, { on := 0, ground := Ground.phase }, { on := 1, ground := Ground.phase }, { on := 2, ground := Ground.phase }, { on := 3, ground := Ground.phase }, { on := 4, ground := Ground.phase }, { on := 5, ground := Ground.phase }, { on := 6, ground := Ground.phase }, { on := 7, ground := Ground.phase }, { on := 8, ground := Ground.phase }, { on := 9, ground := Ground.phase }, { on := 10, ground := Ground.phase }, { on := 11, ground := Ground.phase }, { on := 12, ground := Ground.phase }], guard := none }) (v := ?v25) rfl (by kernel_rfl) (by kernel_rfl) (by kernel_rfl) (fun _ _ _ h => h) (Or.inl ⟨by rfl, ?hy25⟩) (by assumption) ?rest25
        case hy25 => (intro w hSw; (try dsimp only at hSw); go_simp <;> with_reducible rfl)
        try simp only [Act.put, List.setIfInBounds_toArray, List.set_cons_zero, List.set_cons_succ]
        refine wpAnyH_take (i := 14) (oi := { dst := some 79, op := Op.fieldAddr 45 (Operand.tmp 78) 0, type := 0, pos := "law.go:159", after := #[{ on := 13, ground := Ground.data }, { on := 0, ground := Ground.phase }, { on := 1, ground := Ground.phase }, { on := 2, ground := Ground.phase }, { on := 3, ground := Ground.phase }, { on := 4, ground := Ground.phase }, { on := 5, ground := Ground.phase }, { on := 6, ground := Ground.phase }, { on := 7, ground := Ground.phase }, { on := 8, ground := Ground.phase }, { on := 9, ground := Ground.phase }, { on := 10, ground := Ground.phase }, { on := 11, ground := Ground.phase }, { on := 12, ground := Ground.phase }], guard := none }) (v := ?v26) rfl (by kernel_rfl) (by kernel_rfl) (by kernel_rfl) (fun _ _ _ h => h) (Or.inl ⟨by rfl, ?hy26⟩) (by assumption) ?rest26
        case hy26 => (intro w hSw; (try dsimp only at hSw); go_simp <;> with_reducible rfl)
        try simp only [Act.put, List.setIfInBounds_toArray, List.set_cons_zero, List.set_cons_succ]
        refine wpAnyH_ready (rs := [15]) (by kernel_rfl) (by simp) (AllReadyH.cons (o := { dst := none, op := Op.store 42 (Operand.tmp 79) (Operand.tmp 77), type := 0, pos := "law.go:159", after := #[{ on := 14, ground := Ground.data }, { on := 12, ground := Ground.data }, { on := 12, ground := Ground.chain }, { on := 0, ground := Ground.phase }, { on := 1, ground := Ground.phase }, { on := 2, ground := Ground.phase }, { on := 3, ground := Ground.phase }, { on := 4, ground := Ground.phase }, { on := 5, ground := Ground.phase }, { on := 6, ground := Ground.phase }, { on := 7, ground := Ground.phase }, { on := 8, ground := Ground.phase }, { on := 9, ground := Ground.phase }, { on := 10, ground := Ground.phase }, { on := 11, ground := Ground.phase }, { on := 12, ground := Ground.phase }], guard := none }) rfl (fun K hK => ?_) (AllReadyH.nil))
        go_simp
        refine hK.out _ _ trivial (fun hHeld => ?_)
        clear hK K
        try simp only [Act.put, List.setIfInBounds_toArray, List.set_cons_zero, List.set_cons_succ]
        refine wpAnyH_done (by kernel_rfl) ?_ _
        go_wp2_with fail
        go_end0
        exact ⟨rfl, HX.out⟩
      · go_simp
        refine hK.out _ _ trivial (fun hHeld => ?_)
        clear hK K
        try simp only [Act.put, List.setIfInBounds_toArray, List.set_cons_zero, List.set_cons_succ]
        refine wpAnyH_ready (rs := [4, 10]) (by kernel_rfl) (by simp) (AllReadyH.cons (o := { dst := some 69, op := Op.load 42 (Operand.tmp 68), type := 42, pos := "law.go:159", after := #[{ on := 3, ground := Ground.data }], guard := none }) rfl (fun K hK => ?_) (AllReadyH.cons (o := { dst := some 75, op := Op.call { callee := Callee.builtin Builtin.append, args := #[Operand.tmp 71, Operand.tmp 74], argTypes := #[24, 24] }, type := 24, pos := "law.go:159", after := #[{ on := 6, ground := Ground.data }, { on := 9, ground := Ground.data }], guard := none }) rfl (fun K hK => ?_) (AllReadyH.nil)))
        · go_simp
          refine hK.out _ _ trivial (fun hHeld => ?_)
          clear hK K
          try simp only [Act.put, List.setIfInBounds_toArray, List.set_cons_zero, List.set_cons_succ]
          refine wpAnyH_ready (rs := [10]) (by kernel_rfl) (by simp) (AllReadyH.cons (o := { dst := some 75, op := Op.call { callee := Callee.builtin Builtin.append, args := #[Operand.tmp 71, Operand.tmp 74], argTypes := #[24, 24] }, type := 24, pos := "law.go:159", after := #[{ on := 6, ground := Ground.data }, { on := 9, ground := Ground.data }], guard := none }) rfl (fun K hK => ?_) (AllReadyH.nil))
          refine step_append_ex ?_ (.tmp 71) (.tmp 74) _ _ ?_ _ _ ?_ ?_ (fun a b => a = _ ∧ b = w3) ⟨_, w3, run1, rfl, rfl⟩ ?_
          · rfl
          · rfl
          · rfl
          · rfl
          rintro _ _ ⟨rfl, rfl⟩
          refine hK.out _ _ trivial (fun hHeld => ?_)
          clear hK K
          try simp only [Act.put, List.setIfInBounds_toArray, List.set_cons_zero, List.set_cons_succ]
          refine wpAnyH_ready (rs := [11]) (by kernel_rfl) (by simp) (AllReadyH.cons (o := { dst := some 76, op := Op.buildSlice 42 2 #[(0, Operand.tmp 70), (1, Operand.tmp 75)], type := 42, pos := "law.go:159", after := #[{ on := 5, ground := Ground.data }, { on := 10, ground := Ground.data }], guard := none }) rfl (fun K hK => ?_) (AllReadyH.nil))
          go_simp
          refine hK.out _ _ trivial (fun hHeld => ?_)
          clear hK K
          try simp only [Act.put, List.setIfInBounds_toArray, List.set_cons_zero, List.set_cons_succ]
          refine wpAnyH_ready (rs := [12]) (by kernel_rfl) (by simp) (AllReadyH.cons (o := { dst := some 77, op := Op.call { callee := Callee.builtin Builtin.append, args := #[Operand.tmp 69, Operand.tmp 76], argTypes := #[42, 42] }, type := 42, pos := "law.go:159", after := #[{ on := 4, ground := Ground.data }, { on := 11, ground := Ground.data }, { on := 10, ground := Ground.chain }], guard := none }) rfl (fun K hK => ?_) (AllReadyH.nil))
          refine step_append_ex ?_ (.tmp 69) (.tmp 76) _ _ ?_ _ _ ?_ ?_ (fun a b => a = _ ∧ b = w5) ⟨_, w5, run2, rfl, rfl⟩ ?_
          · rfl
          · rfl
          · rfl
          · rfl
          rintro _ _ ⟨rfl, rfl⟩
          refine hK.out _ _ trivial (fun hHeld => ?_)
          clear hK K
          try simp only [Act.put, List.setIfInBounds_toArray, List.set_cons_zero, List.set_cons_succ]
          refine wpAnyH_take (i := 13) (oi := { dst := some 78, op := Op.nilCheck (Operand.tmp 65), type := 0, pos := "law.go:159", after := #[{ on := 0, ground := Ground.data }, { on := 0, ground := Ground.phase }, { on := 1, ground := Ground.phase }, { on := 2, ground := Ground.phase }, { on := 3, ground := Ground.phase }, { on := 4, ground := Ground.phase }, { on := 5, ground := Ground.phase }, { on := 6, ground := Ground.phase }, { on := 7, ground := Ground.phase }, { on := 8, ground := Ground.phase }, { on := 9, ground := Ground.phase }, { on := 10, ground := Ground.phase }, { on := 11, ground := Ground.phase }, { on := 12, ground := Ground.phase }], guard := none }) (v := ?v27) rfl (by kernel_rfl) (by kernel_rfl) (by kernel_rfl) (fun _ _ _ h => h) (Or.inl ⟨by rfl, ?hy27⟩) (by assumption) ?rest27
          case hy27 => (intro w hSw; (try dsimp only at hSw); go_simp <;> with_reducible rfl)
          try simp only [Act.put, List.setIfInBounds_toArray, List.set_cons_zero, List.set_cons_succ]
          refine wpAnyH_take (i := 14) (oi := { dst := some 79, op := Op.fieldAddr 45 (Operand.tmp 78) 0, type := 0, pos := "law.go:159", after := #[{ on := 13, ground := Ground.data }, { on := 0, ground := Ground.phase }, { on := 1, ground := Ground.phase }, { on := 2, ground := Ground.phase }, { on := 3, ground := Ground.phase }, { on := 4, ground := Ground.phase }, { on := 5, ground := Ground.phase }, { on := 6, ground := Ground.phase }, { on := 7, ground := Ground.phase }, { on := 8, ground := Ground.phase }, { on := 9, ground := Ground.phase }, { on := 10, ground := Ground.phase }, { on := 11, ground := Ground.phase }, { on := 12, ground := Ground.phase }], guard := none }) (v := ?v28) rfl (by kernel_rfl) (by kernel_rfl) (by kernel_rfl) (fun _ _ _ h => h) (Or.inl ⟨by rfl, ?hy28⟩) (by assumption) ?rest28
          case hy28 => (intro w hSw; (try dsimp only at hSw); go_simp <;> with_reducible rfl)
          try simp only [Act.put, List.setIfInBounds_toArray, List.set_cons_zero, List.set_cons_succ]
          refine wpAnyH_ready (rs := [15]) (by kernel_rfl) (by simp) (AllReadyH.cons (o := { dst := none, op := Op.store 42 (Operand.tmp 79) (Operand.tmp 77), type := 0, pos := "law.go:159", after := #[{ on := 14, ground := Ground.data }, { on := 12, ground := Ground.data }, { on := 12, ground := Ground.chain }, { on := 0, ground := Ground.phase }, { on := 1, ground := Ground.phase }, { on := 2, ground := Ground.phase }, { on := 3, ground := Ground.phase }, { on := 4, ground := Ground.phase }, { on := 5, ground := Ground.phase }, { on := 6, ground := Ground.phase }, { on := 7, ground := Ground.phase }, { on := 8, ground := Ground.phase }, { on := 9, ground := Ground.phase }, { on := 10, ground := Ground.phase }, { on := 11, ground := Ground.phase }, { on := 12, ground := Ground.phase }], guard := none }) rfl (fun K hK => ?_) (AllReadyH.nil))
          go_simp
          refine hK.out _ _ trivial (fun hHeld => ?_)
          clear hK K
          try simp only [Act.put, List.setIfInBounds_toArray, List.set_cons_zero, List.set_cons_succ]
          refine wpAnyH_done (by kernel_rfl) ?_ _
          go_wp2_with fail
          go_end0
          exact ⟨rfl, HX.out⟩
        · refine step_append_ex ?_ (.tmp 71) (.tmp 74) _ _ ?_ _ _ ?_ ?_ (fun a b => a = _ ∧ b = w3) ⟨_, w3, run1, rfl, rfl⟩ ?_
          · rfl
          · rfl
          · rfl
          · rfl
          rintro _ _ ⟨rfl, rfl⟩
          refine hK.out _ _ trivial (fun hHeld => ?_)
          clear hK K
          try simp only [Act.put, List.setIfInBounds_toArray, List.set_cons_zero, List.set_cons_succ]
          refine wpAnyH_ready (rs := [4, 11]) (by kernel_rfl) (by simp) (AllReadyH.cons (o := { dst := some 69, op := Op.load 42 (Operand.tmp 68), type := 42, pos := "law.go:159", after := #[{ on := 3, ground := Ground.data }], guard := none }) rfl (fun K hK => ?_) (AllReadyH.cons (o := { dst := some 76, op := Op.buildSlice 42 2 #[(0, Operand.tmp 70), (1, Operand.tmp 75)], type := 42, pos := "law.go:159", after := #[{ on := 5, ground := Ground.data }, { on := 10, ground := Ground.data }], guard := none }) rfl (fun K hK => ?_) (AllReadyH.nil)))
          · go_simp
            refine hK.out _ _ trivial (fun hHeld => ?_)
            clear hK K
            try simp only [Act.put, List.setIfInBounds_toArray, List.set_cons_zero, List.set_cons_succ]
            refine wpAnyH_ready (rs := [11]) (by kernel_rfl) (by simp) (AllReadyH.cons (o := { dst := some 76, op := Op.buildSlice 42 2 #[(0, Operand.tmp 70), (1, Operand.tmp 75)], type := 42, pos := "law.go:159", after := #[{ on := 5, ground := Ground.data }, { on := 10, ground := Ground.data }], guard := none }) rfl (fun K hK => ?_) (AllReadyH.nil))
            go_simp
            refine hK.out _ _ trivial (fun hHeld => ?_)
            clear hK K
            try simp only [Act.put, List.setIfInBounds_toArray, List.set_cons_zero, List.set_cons_succ]
            refine wpAnyH_ready (rs := [12]) (by kernel_rfl) (by simp) (AllReadyH.cons (o := { dst := some 77, op := Op.call { callee := Callee.builtin Builtin.append, args := #[Operand.tmp 69, Operand.tmp 76], argTypes := #[42, 42] }, type := 42, pos := "law.go:159", after := #[{ on := 4, ground := Ground.data }, { on := 11, ground := Ground.data }, { on := 10, ground := Ground.chain }], guard := none }) rfl (fun K hK => ?_) (AllReadyH.nil))
            refine step_append_ex ?_ (.tmp 69) (.tmp 76) _ _ ?_ _ _ ?_ ?_ (fun a b => a = _ ∧ b = w5) ⟨_, w5, run2, rfl, rfl⟩ ?_
            · rfl
            · rfl
            · rfl
            · rfl
            rintro _ _ ⟨rfl, rfl⟩
            refine hK.out _ _ trivial (fun hHeld => ?_)
            clear hK K
            try simp only [Act.put, List.setIfInBounds_toArray, List.set_cons_zero, List.set_cons_succ]
            refine wpAnyH_take (i := 13) (oi := { dst := some 78, op := Op.nilCheck (Operand.tmp 65), type := 0, pos := "law.go:159", after := #[{ on := 0, ground := Ground.data }, { on := 0, ground := Ground.phase }, { on := 1, ground := Ground.phase }, { on := 2, ground := Ground.phase }, { on := 3, ground := Ground.phase }, { on := 4, ground := Ground.phase }, { on := 5, ground := Ground.phase }, { on := 6, ground := Ground.phase }, { on := 7, ground := Ground.phase }, { on := 8, ground := Ground.phase }, { on := 9, ground := Ground.phase }, { on := 10, ground := Ground.phase }, { on := 11, ground := Ground.phase }, { on := 12, ground := Ground.phase }], guard := none }) (v := ?v29) rfl (by kernel_rfl) (by kernel_rfl) (by kernel_rfl) (fun _ _ _ h => h) (Or.inl ⟨by rfl, ?hy29⟩) (by assumption) ?rest29
            case hy29 => (intro w hSw; (try dsimp only at hSw); go_simp <;> with_reducible rfl)
            try simp only [Act.put, List.setIfInBounds_toArray, List.set_cons_zero, List.set_cons_succ]
            refine wpAnyH_take (i := 14) (oi := { dst := some 79, op := Op.fieldAddr 45 (Operand.tmp 78) 0, type := 0, pos := "law.go:159", after := #[{ on := 13, ground := Ground.data }, { on := 0, ground := Ground.phase }, { on := 1, ground := Ground.phase }, { on := 2, ground := Ground.phase }, { on := 3, ground := Ground.phase }, { on := 4, ground := Ground.phase }, { on := 5, ground := Ground.phase }, { on := 6, ground := Ground.phase }, { on := 7, ground := Ground.phase }, { on := 8, ground := Ground.phase }, { on := 9, ground := Ground.phase }, { on := 10, ground := Ground.phase }, { on := 11, ground := Ground.phase }, { on := 12, ground := Ground.phase }], guard := none }) (v := ?v30) rfl (by kernel_rfl) (by kernel_rfl) (by kernel_rfl) (fun _ _ _ h => h) (Or.inl ⟨by rfl, ?hy30⟩) (by assumption) ?rest30
            case hy30 => (intro w hSw; (try dsimp only at hSw); go_simp <;> with_reducible rfl)
            try simp only [Act.put, List.setIfInBounds_toArray, List.set_cons_zero, List.set_cons_succ]
            refine wpAnyH_ready (rs := [15]) (by kernel_rfl) (by simp) (AllReadyH.cons (o := { dst := none, op := Op.store 42 (Operand.tmp 79) (Operand.tmp 77), type := 0, pos := "law.go:159", after := #[{ on := 14, ground := Ground.data }, { on := 12, ground := Ground.data }, { on := 12, ground := Ground.chain }, { on := 0, ground := Ground.phase }, { on := 1, ground := Ground.phase }, { on := 2, ground := Ground.phase }, { on := 3, ground := Ground.phase }, { on := 4, ground := Ground.phase }, { on := 5, ground := Ground.phase }, { on := 6, ground := Ground.phase }, { on := 7, ground := Ground.phase }, { on := 8, ground := Ground.phase }, { on := 9, ground := Ground.phase }, { on := 10, ground := Ground.phase }, { on := 11, ground := Ground.phase }, { on := 12, ground := Ground.phase }], guard := none }) rfl (fun K hK => ?_) (AllReadyH.nil))
            go_simp
            refine hK.out _ _ trivial (fun hHeld => ?_)
            clear hK K
            try simp only [Act.put, List.setIfInBounds_toArray, List.set_cons_zero, List.set_cons_succ]
            refine wpAnyH_done (by kernel_rfl) ?_ _
            go_wp2_with fail
            go_end0
            exact ⟨rfl, HX.out⟩
          · go_simp
            refine hK.out _ _ trivial (fun hHeld => ?_)
            clear hK K
            try simp only [Act.put, List.setIfInBounds_toArray, List.set_cons_zero, List.set_cons_succ]
            refine wpAnyH_ready (rs := [4]) (by kernel_rfl) (by simp) (AllReadyH.cons (o := { dst := some 69, op := Op.load 42 (Operand.tmp 68), type := 42, pos := "law.go:159", after := #[{ on := 3, ground := Ground.data }], guard := none }) rfl (fun K hK => ?_) (AllReadyH.nil))
            go_simp
            refine hK.out _ _ trivial (fun hHeld => ?_)
            clear hK K
            try simp only [Act.put, List.setIfInBounds_toArray, List.set_cons_zero, List.set_cons_succ]
            refine wpAnyH_ready (rs := [12]) (by kernel_rfl) (by simp) (AllReadyH.cons (o := { dst := some 77, op := Op.call { callee := Callee.builtin Builtin.append, args := #[Operand.tmp 69, Operand.tmp 76], argTypes := #[42, 42] }, type := 42, pos := "law.go:159", after := #[{ on := 4, ground := Ground.data }, { on := 11, ground := Ground.data }, { on := 10, ground := Ground.chain }], guard := none }) rfl (fun K hK => ?_) (AllReadyH.nil))
            refine step_append_ex ?_ (.tmp 69) (.tmp 76) _ _ ?_ _ _ ?_ ?_ (fun a b => a = _ ∧ b = w5) ⟨_, w5, run2, rfl, rfl⟩ ?_
            · rfl
            · rfl
            · rfl
            · rfl
            rintro _ _ ⟨rfl, rfl⟩
            refine hK.out _ _ trivial (fun hHeld => ?_)
            clear hK K
            try simp only [Act.put, List.setIfInBounds_toArray, List.set_cons_zero, List.set_cons_succ]
            refine wpAnyH_take (i := 13) (oi := { dst := some 78, op := Op.nilCheck (Operand.tmp 65), type := 0, pos := "law.go:159", after := #[{ on := 0, ground := Ground.data }, { on := 0, ground := Ground.phase }, { on := 1, ground := Ground.phase }, { on := 2, ground := Ground.phase }, { on := 3, ground := Ground.phase }, { on := 4, ground := Ground.phase }, { on := 5, ground := Ground.phase }, { on := 6, ground := Ground.phase }, { on := 7, ground := Ground.phase }, { on := 8, ground := Ground.phase }, { on := 9, ground := Ground.phase }, { on := 10, ground := Ground.phase }, { on := 11, ground := Ground.phase }, { on := 12, ground := Ground.phase }], guard := none }) (v := ?v31) rfl (by kernel_rfl) (by kernel_rfl) (by kernel_rfl) (fun _ _ _ h => h) (Or.inl ⟨by rfl, ?hy31⟩) (by assumption) ?rest31
            case hy31 => (intro w hSw; (try dsimp only at hSw); go_simp <;> with_reducible rfl)
            try simp only [Act.put, List.setIfInBounds_toArray, List.set_cons_zero, List.set_cons_succ]
            refine wpAnyH_take (i := 14) (oi := { dst := some 79, op := Op.fieldAddr 45 (Operand.tmp 78) 0, type := 0, pos := "law.go:159", after := #[{ on := 13, ground := Ground.data }, { on := 0, ground := Ground.phase }, { on := 1, ground := Ground.phase }, { on := 2, ground := Ground.phase }, { on := 3, ground := Ground.phase }, { on := 4, ground := Ground.phase }, { on := 5, ground := Ground.phase }, { on := 6, ground := Ground.phase }, { on := 7, ground := Ground.phase }, { on := 8, ground := Ground.phase }, { on := 9, ground := Ground.phase }, { on := 10, ground := Ground.phase }, { on := 11, ground := Ground.phase }, { on := 12, ground := Ground.phase }], guard := none }) (v := ?v32) rfl (by kernel_rfl) (by kernel_rfl) (by kernel_rfl) (fun _ _ _ h => h) (Or.inl ⟨by rfl, ?hy32⟩) (by assumption) ?rest32
            case hy32 => (intro w hSw; (try dsimp only at hSw); go_simp <;> with_reducible rfl)
            try simp only [Act.put, List.setIfInBounds_toArray, List.set_cons_zero, List.set_cons_succ]
            refine wpAnyH_ready (rs := [15]) (by kernel_rfl) (by simp) (AllReadyH.cons (o := { dst := none, op := Op.store 42 (Operand.tmp 79) (Operand.tmp 77), type := 0, pos := "law.go:159", after := #[{ on := 14, ground := Ground.data }, { on := 12, ground := Ground.data }, { on := 12, ground := Ground.chain }, { on := 0, ground := Ground.phase }, { on := 1, ground := Ground.phase }, { on := 2, ground := Ground.phase }, { on := 3, ground := Ground.phase }, { on := 4, ground := Ground.phase }, { on := 5, ground := Ground.phase }, { on := 6, ground := Ground.phase }, { on := 7, ground := Ground.phase }, { on := 8, ground := Ground.phase }, { on := 9, ground := Ground.phase }, { on := 10, ground := Ground.phase }, { on := 11, ground := Ground.phase }, { on := 12, ground := Ground.phase }], guard := none }) rfl (fun K hK => ?_) (AllReadyH.nil))
            go_simp
            refine hK.out _ _ trivial (fun hHeld => ?_)
            clear hK K
            try simp only [Act.put, List.setIfInBounds_toArray, List.set_cons_zero, List.set_cons_succ]
            refine wpAnyH_done (by kernel_rfl) ?_ _
            go_wp2_with fail
            go_end0
            exact ⟨rfl, HX.out⟩
end Go.Proofs.YtchfphakhmifmabGreatDoor
namespace Go.Proofs.YtchfphakhmifmabGreatDoor
open Go.ChangeShapes Go.WideShapes Go.ChangeAt Go.RowKit Go.Shelf Go.Lib

/-- A list of elements in memory of its own, from what there was on. -/
def OwnP (w w' : World) (v : Value) : Prop := ∃ bot vA f sx ex, w.heap.size ≤ bot ∧ bot ≤ w'.heap.size ∧ TR w' bot vA v f sx ex ∧ ex.length ≤ 20000 ∧ ∀ x ∈ ex, x.e.ats.length ≤ 24
theorem OwnP.drewN {w w' : World} {v : Value} (h : OwnP w w' v) (m : Nat) : OwnP w (w'.drewN m) v := by
  obtain ⟨bot, vA, f, sx, ex, h1, h2, h3, h4⟩ := h
  exact ⟨bot, vA, f, sx, ex, h1, h2, h3.same fun _ _ _ => rfl, h4⟩
def nilR : Nat → Rw := fun c => if c = 0 then opR (.slice none 0 0) [] else elR (.slice none 0 0) []
theorem OwnP.nil {w w' : World} (h : w.heap.size ≤ w'.heap.size) : OwnP w w' (.slice none 0 0) := by
  refine ⟨w.heap.size, .slice none 0 0, nilR, [], [], Nat.le_refl _, h, ⟨⟨fun c => ?_, fun c c' _ k hk => ?_⟩, rfl, rfl, fun j o hj => (by cases hj), fun i x hx => (by cases hx)⟩, Nat.zero_le _, fun x hx => (by cases hx)⟩
  · unfold Rw.own nilR
    by_cases h : c = 0
    · rw [if_pos h]; exact World.ownsRow_nil _ _ _ _
    · rw [if_neg h]; exact World.ownsRow_nil _ _ _ _
  · unfold nilR at hk
    by_cases h : c = 0
    · rw [if_pos h] at hk; cases hk
    · rw [if_neg h] at hk; cases hk
theorem Rdr.ownp {W : World} {R bot : Nat} {v : Nat → Value} {s : PSt} (h : Rdr W R bot v s) (h0 : s.op = []) {w : World} (hw : w.heap.size ≤ bot) : OwnP w W (v 6) := by
  obtain ⟨f, sx, ex, hT, hs, he⟩ := h.x
  rw [h0, hide_nil] at he
  refine ⟨bot, v 5, f, sx, ex, hw, h.hB, hT, ?_, fun x hx => ?_⟩
  · have := h.ok.el
    rw [← he, List.length_map] at this
    exact this
  · refine h.ok.al x.e ?_
    rw [← he]
    exact List.mem_map_of_mem hx
def ParseO (w : World) (e : Ending) (w' : World) : Prop := ∃ v a b, e = .returned (.tuple #[v, .int .i64 a, .int .i64 b]) ∧ Below w.heap.size w w' ∧ OwnP w w' v
set_option maxRecDepth 100000 in
set_option maxHeartbeats 4000000 in
theorem Parse_own (s : ByteArray) (w : World) (hE : Env w) (h7 : 7 ≤ w.heap.size) (hs : s.size ≤ 9223372036854775807) :
    Calls Tryz.prog 10 #[.string s] w (ParseO w) := by
  have cT := tokU s w hE h7 hs

  by_cases h1 : er1 s = 0
  · have hn := er1_none h1
    have hLL : LL s = (toksN s).1 := by unfold LL; rw [hn]
    have he2 : er2 s = 0 := by unfold er2; rw [hn]; rfl
    have hts : toksN s = (LL s, none) := by rw [hLL, ← hn]
    have hsm : ∀ t ∈ LL s, t.vl.size ≤ 16777216 := fun t ht => (toks_small hts t.it (List.mem_map_of_mem ht)).2
    have hsq : SeqT false (LL s) := by rw [hLL]; exact toksN_seq s hs
    have hlen : (LL s).length ≤ 1048576 := by rw [hLL]; exact toksN_len s (by omega)
    unfold TokU at cT
    rw [h1, he2] at cT
    have cA : ∀ w1 p c, Below w.heap.size w w1 → IRow w1 p w1.heap.size ((LL s).map Tok.it) → Calls Tryz.prog 26 #[.pointer (some ⟨w1.heap.size, 0, none⟩), .slice p (LL s).length c] (w1.alloc rdrO) (AllPost w1.heap.size (w1.alloc rdrO) (LL s)) := fun w1 p c hb hI =>
      takeAll_any w1.heap.size rdrV (LL s) p c (w1.alloc rdrO) (r7_new w1) rfl rfl rfl (hI.below (bel1 w1 rdrO)) hsq hsm hlen
    unfold ParseO
    unfold AllPost at cA
    cases hz : takeL blankB (LL s) ⟨[], []⟩ with
    | error x =>
      obtain ⟨er, p⟩ := x
      rw [hz] at cA
      dsimp only at cA ⊢
      generalize LL s = L at cT cA
      clear hts hsm hsq hlen hLL hn he2 h1 hz
      go_enter Tryz.func10, Tryz.ntmps10
      go_wp2_with (first
        | (go_at_call 25; refine cT.mono ?_; rintro _ w1 ⟨p1, c1, rfl, hb1, hI1⟩; have cA1 := cA w1 p1 c1 hb1 hI1; clear cT cA hI1)
        | (go_at_call 26; refine cA1.mono ?_; rintro _ w2 ⟨rfl, hK2, v2, h72, hv4, hv3, hne⟩; have cF := finish_bad _ v2 er s.size w2 h72 hv4 hne; have cR := refused_any w1.heap.size v2 er; clear cA1)
        | (go_at_call 27; refine cF.mono ?_; rintro _ w3 ⟨rfl, m, hw3⟩; have h73 : R7 w3 w1.heap.size v2 := (by rw [hw3]; exact h72.drewN m); have HK3 : Hid (Below w.heap.size w w3) := Hid.mkT (hb1.trans ((Kr.bel (w' := w3) (by rw [hw3]; exact ⟨hK2.os, hK2.tape, hK2.output, hK2.size, fun k hk hn => hK2.block k (by rw [World.size_alloc]; omega) hn⟩) rfl).mono hb1.size)); have cR1 := cR w3 h73 hv4; rw [decide_eq_true hne] at cR1; have e4 := h73.c 4 (by decide); have e3 := h73.c 3 (by decide); rw [hv4] at e4; rw [hv3] at e3; clear hw3)
        | (go_at_call 28; refine cR1.mono ?_; rintro _ w4 ⟨rfl, m4, hw4⟩; have f4 : w4.cell? ⟨w1.heap.size, 4, none⟩ = some (.int .i64 (er : Int)) := (by rw [hw4]; exact e4); have f3 : w4.cell? ⟨w1.heap.size, 3, none⟩ = some (.int .i64 (p : Int)) := (by rw [hw4]; exact e3); have HK4 : Hid (Below w.heap.size w w4) := Hid.mkT (by rw [hw4]; exact ⟨HK3.out.os, HK3.out.tape, HK3.out.output, HK3.out.size, HK3.out.block⟩); clear hw4))
      go_quiet (fail)
      go_wp2_with fail
      exact bodyPost_ret (v := .tuple #[.slice none 0 0, .int .i64 (er : Int), .int .i64 (p : Int)]) (by simp [results, Tryz.results10, go_sem]) rfl ⟨_, _, _, rfl, ⟨HK4.out.os, HK4.out.tape, HK4.out.output, HK4.out.size, HK4.out.block⟩, OwnP.nil HK4.out.size⟩
    | ok t =>
      have hp := takeL_ok _ hz POk.nil
      rw [hz] at cA
      dsimp only at cA ⊢
      generalize LL s = L at cT cA
      clear hts hsm hsq hlen hLL hn he2 h1 hz
      by_cases h0 : endE t = 0
      · have h0op : t.op = [] := by
          unfold endE at h0
          by_cases hc : t.op ≠ []
          · rw [if_pos hc] at h0; cases h0
          · exact Classical.not_not.1 hc
        go_enter Tryz.func10, Tryz.ntmps10
        go_wp2_with (first
          | (go_at_call 25; refine cT.mono ?_; rintro _ w1 ⟨p1, c1, rfl, hb1, hI1⟩; have cA1 := cA w1 p1 c1 hb1 hI1; clear cT cA hI1)
          | (go_at_call 26; refine cA1.mono ?_; rintro _ w2 ⟨rfl, hK2, v2, bot, hbot, hr2, hv4⟩; have cF := finish_ok _ bot v2 t s.size w2 hr2 hv4; clear cA1)
          | (go_at_call 27; refine cF.mono ?_; rintro _ w3 ⟨rfl, hK3, v3, h73, hv4, hv3, hrr⟩; have hr3 := hrr h0; have HK3 : Hid (Below w.heap.size w w3) := Hid.mkT (hb1.trans ((Kr.bel (w' := w3) ⟨hK3.os.trans hK2.os, hK3.tape.trans hK2.tape, hK3.output.trans hK2.output, Nat.le_trans hK2.size hK3.size, fun k hk hn => (hK3.block k (by rw [World.size_alloc] at hbot; omega) hn).trans (hK2.block k (by rw [World.size_alloc]; omega) hn)⟩ rfl).mono hb1.size)); rw [h0] at hv4; have cR1 := refused_any w1.heap.size v3 0 w3 h73 hv4; rw [show decide ((0 : Nat) ≠ 0) = false from rfl] at cR1; obtain ⟨pe, ce, h6, -⟩ := hr3.erow h0op; have hER : OwnP w w3 (.slice pe t.es.length ce) := h6 ▸ hr3.ownp h0op (by rw [World.size_alloc] at hbot; have := hb1.size; omega); have e6 := h73.c 6 (by decide); rw [h6] at e6; clear hrr)
          | (go_at_call 28; refine cR1.mono ?_; rintro _ w4 ⟨rfl, m4, hw4⟩; have f6 : w4.cell? ⟨w1.heap.size, 6, none⟩ = some (.slice pe t.es.length ce) := (by rw [hw4]; exact e6); have HK4 : Hid (Below w.heap.size w w4 ∧ OwnP w w4 (.slice pe t.es.length ce)) := Hid.mkT (by rw [hw4]; exact ⟨⟨HK3.out.os, HK3.out.tape, HK3.out.output, HK3.out.size, HK3.out.block⟩, hER.drewN m4⟩); clear hw4))
        exact bodyPost_ret (v := .tuple #[.slice pe t.es.length ce, .int .i64 0, .int .i64 0]) (by simp [results, Tryz.results10, go_sem]) rfl ⟨_, _, _, rfl, HK4.out.1, HK4.out.2⟩
      · go_enter Tryz.func10, Tryz.ntmps10
        go_wp2_with (first
          | (go_at_call 25; refine cT.mono ?_; rintro _ w1 ⟨p1, c1, rfl, hb1, hI1⟩; have cA1 := cA w1 p1 c1 hb1 hI1; clear cT cA hI1)
          | (go_at_call 26; refine cA1.mono ?_; rintro _ w2 ⟨rfl, hK2, v2, bot, hbot, hr2, hv4⟩; have cF := finish_ok _ bot v2 t s.size w2 hr2 hv4; clear cA1)
          | (go_at_call 27; refine cF.mono ?_; rintro _ w3 ⟨rfl, hK3, v3, h73, hv4, hv3, -⟩; have HK3 : Hid (Below w.heap.size w w3) := Hid.mkT (hb1.trans ((Kr.bel (w' := w3) ⟨hK3.os.trans hK2.os, hK3.tape.trans hK2.tape, hK3.output.trans hK2.output, Nat.le_trans hK2.size hK3.size, fun k hk hn => (hK3.block k (by rw [World.size_alloc] at hbot; omega) hn).trans (hK2.block k (by rw [World.size_alloc]; omega) hn)⟩ rfl).mono hb1.size)); have cR1 := refused_any w1.heap.size v3 (endE t) w3 h73 hv4; rw [decide_eq_true h0] at cR1; have e4 := h73.c 4 (by decide); have e3 := h73.c 3 (by decide); rw [hv4] at e4; rw [hv3] at e3)
          | (go_at_call 28; refine cR1.mono ?_; rintro _ w4 ⟨rfl, m4, hw4⟩; have f4 : w4.cell? ⟨w1.heap.size, 4, none⟩ = some (.int .i64 (endE t : Int)) := (by rw [hw4]; exact e4); have f3 : w4.cell? ⟨w1.heap.size, 3, none⟩ = some (.int .i64 (s.size : Int)) := (by rw [hw4]; exact e3); have HK4 : Hid (Below w.heap.size w w4) := Hid.mkT (by rw [hw4]; exact ⟨HK3.out.os, HK3.out.tape, HK3.out.output, HK3.out.size, HK3.out.block⟩); clear hw4))
        go_quiet (fail)
        go_wp2_with fail
        exact bodyPost_ret (v := .tuple #[.slice none 0 0, .int .i64 (endE t : Int), .int .i64 (s.size : Int)]) (by simp [results, Tryz.results10, go_sem]) rfl ⟨_, _, _, rfl, ⟨HK4.out.os, HK4.out.tape, HK4.out.output, HK4.out.size, HK4.out.block⟩, OwnP.nil HK4.out.size⟩
  · unfold ParseO
    unfold TokU at cT
    have z1 : ¬ (er1 s : Int) = 0 := by omega
    have z2 : ((er1 s : Int) == 0) = false := beq_eq_false_iff_ne.2 z1
    have z3 : ((er1 s : Int) != 0) = true := by rw [bne, z2]; rfl
    clear h1
    go_enter Tryz.func10, Tryz.ntmps10
    go_wp2_with (go_at_call 25; refine cT.mono ?_; rintro _ w1 ⟨p1, c1, rfl, hb1, -⟩)
    exact bodyPost_ret (v := .tuple #[.slice none 0 0, .int .i64 (er1 s : Int), .int .i64 (er2 s : Int)]) (by simp [results, Tryz.results10, go_sem]) rfl ⟨_, _, _, rfl, hb1, OwnP.nil hb1.size⟩
end Go.Proofs.YtchfphakhmifmabGreatDoor
namespace Go.Proofs.YtchfphakhmifmabGreatDoor
open Go.ChangeShapes Go.WideShapes Go.ChangeAt Go.RowKit Go.Shelf Go.Lib

/-- Texts in memory, handed in. -/
structure SRow (w : World) (pp : Option Addr) (H : Nat) (ss : List ByteArray) : Prop where
  c : ∀ (i : Nat) (s : ByteArray), ss[i]? = some s → ∃ g o, pp = some ⟨g, o, none⟩ ∧ g < H ∧ w.cell? ⟨g, o + i, none⟩ = some (.string s)
/-- What the first loop has, behind k texts. -/
structure KL (w wr : World) (k : Nat) (F : Nat → Rw) (E A : List Value) : Prop where
  b : BK wr w.heap.size F E A
  e : E.length = 2 * k
  a : A.length ≤ 40000 * k
  bel : Below w.heap.size w wr
set_option maxRecDepth 100000 in
set_option maxHeartbeats 8000000 in
theorem TreeKept_any (pp : Option Addr) (cp : Nat) (ss : List ByteArray) (w : World) (hr : SRow w pp w.heap.size ss) (hE : Env w) (h7 : 7 ≤ w.heap.size) (hs : ∀ s ∈ ss, s.size ≤ 9223372036854775807) (hl : ss.length ≤ 140737488351232) :
    Calls Tryz.prog 5 #[.slice pp ss.length cp] w fun e w' => e = .returned (.bool true) ∧ Below w.heap.size w w' := by
  have Hlaw : Hid (∀ W s, Below w.heap.size w W → s ∈ ss → Calls Tryz.prog 4 #[.string s] W fun e w' => e = .returned (.bool true) ∧ Below W.heap.size W w') := Hid.mkT fun W s hb hm => TreeParses_any s W (hE.below hb h7) (Nat.le_trans h7 hb.size) (hs s hm)
  have Hpar : Hid (∀ W s, Below w.heap.size w W → s ∈ ss → Calls Tryz.prog 10 #[.string s] W (ParseO W)) := Hid.mkT fun W s hb hm => Parse_own s W (hE.below hb h7) (Nat.le_trans h7 hb.size) (hs s hm)
  have h0 : KL w (w.alloc (.cells #[.slice none 0 0, .slice none 0 0] 45)) 0 nilF [] [] := ⟨BK.new w, rfl, Nat.le_refl _, bel1 w _⟩
  clear hE h7 hs
  go_enter Tryz.func5, Tryz.ntmps5
  go_wp2_with fail
  go_loopw [4] (fun i wr => ∃ (k : Nat) (F : Nat → Rw) (E A : List Value), k ≤ ss.length ∧ k ≤ 8 ∧ i = .int .i64 (k : Int) ∧ KL w wr k F E A) (fun i _ => 8 - (RowKit.intOf i).toNat)
  case atStart => exact ⟨0, _, _, _, Nat.zero_le _, Nat.zero_le _, rfl, h0⟩
  case round =>
    obtain ⟨k, F, E, A, hk, hk8, rfl, hK⟩ := hrel
    clear h0
    by_cases hlt : k < ss.length ∧ k < 8
    · obtain ⟨s, hs⟩ : ∃ s, ss[k]? = some s := ⟨ss[k], List.getElem?_eq_getElem hlt.1⟩
      have hmem := List.mem_of_getElem? hs
      obtain ⟨g, o, rfl, hg, hc⟩ := hr.c k s hs
      have d0 := (hK.bel.cell (p := ⟨g, o + k, none⟩) hg).trans hc
      have t1 : (k : Int) < ss.length := by omega
      have t2 : (k : Int) < 8 := by omega
      have hlE : E.length ≤ 1000 := by have := hK.e; omega
      have hlA : A.length ≤ 900000 := by have := hK.a; omega
      have c1 := (Hlaw.out wr s hK.bel hmem).mono (R' := fun e w1 => e = .returned (.bool true) ∧ KL w w1 k F E A ∧ w1.cell? ⟨g, o + k, none⟩ = some (.string s)) fun e w1 ⟨h1, h2⟩ => ⟨h1, ⟨hK.b.below h2, hK.e, hK.a, hK.bel.trans (h2.mono hK.bel.size)⟩, ((hK.bel.trans (h2.mono hK.bel.size)).cell (p := ⟨g, o + k, none⟩) hg).trans hc⟩
      have HK : Hid (∀ W w', KL w W k F E A → Below W.heap.size W w' → KL w w' k F E A ∧ w'.cell? ⟨g, o + k, none⟩ = some (.string s)) := Hid.mkT fun W w' hW h2 => ⟨⟨hW.b.below h2, hW.e, hW.a, hW.bel.trans (h2.mono hW.bel.size)⟩, ((hW.bel.trans (h2.mono hW.bel.size)).cell (p := ⟨g, o + k, none⟩) hg).trans hc⟩
      clear hK hs hr hc
      go_wp2_with (first
        | (go_at_call 4; refine c1.mono ?_; rintro _ w1 ⟨rfl, hK1, d1⟩; have c2 := holds_any w.heap.size F E A w1 hK1.b (by omega) (by omega); clear c1)
        | (go_at_call 14; refine c2.mono ?_; rintro _ w2 ⟨rfl, hb2⟩; obtain ⟨hK2, d2⟩ := HK.out _ _ hK1 hb2; have c3 := Hpar.out w2 s hK2.bel hmem; clear c2 hb2)
        | (go_at_call 10; refine c3.mono ?_; rintro _ w3 ⟨v3, a3, b3, rfl, hb3, bot, vA, f', sx, ex, h1, h2, hT, hx1, hx2⟩; obtain ⟨p3, q3, hv3⟩ := own_sl hT.own1; subst hv3; obtain ⟨q1, q2, q3⟩ := hK2.b.parsed hb3 h1 hT; have c4 := keep_any w.heap.size _ E A _ ex w3 q1 q2 q3 hx1 hx2 hlE hlA; have hb3' := hK2.bel.trans (hb3.mono hK2.bel.size); have he := hK2.e; have ha := hK2.a; clear c3 q1 q2 q3 hT)
        | (go_at_call 15; refine c4.mono ?_; rintro _ w4 ⟨rfl, hb4, F', E', A', h5, h6, h7⟩; have hK4 : KL w w4 (k + 1) F' E' A' := ⟨h5, by omega, by omega, hb3'.trans hb4⟩; clear c4))
      go_roundw
      case rel => exact ⟨k + 1, F', E', A', by omega, by omega, by go_num, hK4⟩
      case measure => simp [RowKit.intOf]; omega
    · clear Hpar
      by_cases hk1 : k < ss.length
      · have t0 : ¬ (k : Int) < 8 := by omega
        have t1 : (k : Int) < ss.length := by omega
        go_wp2_with fail
        go_loopw [9] (fun j wr => ∃ q : Nat, q ≤ ss.length ∧ q ≤ 8 ∧ j = .int .i64 (q : Int) ∧ KL w wr k F E A) (fun j _ => 8 - (RowKit.intOf j).toNat)
        case atStart => exact ⟨0, Nat.zero_le _, Nat.zero_le _, rfl, hK⟩
        case round =>
          obtain ⟨q, hq, hq8, rfl, hK'⟩ := hrel
          clear hK
          by_cases hql : q < ss.length ∧ q < 8
          · obtain ⟨s, hs⟩ : ∃ s, ss[q]? = some s := ⟨ss[q], List.getElem?_eq_getElem hql.1⟩
            have hmem := List.mem_of_getElem? hs
            obtain ⟨g, o, rfl, hg, hc⟩ := hr.c q s hs
            have d0 := (hK'.bel.cell (p := ⟨g, o + q, none⟩) hg).trans hc
            have t1 : (q : Int) < ss.length := by omega
            have t2 : (q : Int) < 8 := by omega
            have c1 := (Hlaw.out wr s hK'.bel hmem).mono (R' := fun e w1 => e = .returned (.bool true) ∧ KL w w1 k F E A) fun e w1 ⟨h1, h2⟩ => ⟨h1, hK'.b.below h2, hK'.e, hK'.a, hK'.bel.trans (h2.mono hK'.bel.size)⟩
            clear hK' hs hr hc
            go_wp2_with (go_at_call 4; refine c1.mono ?_; rintro _ w1 ⟨rfl, hK1⟩)
            go_roundw
            case rel => exact ⟨q + 1, by omega, by omega, by go_num, hK1⟩
            case measure => simp [RowKit.intOf]; omega
          · have hE1 : E.length ≤ 1000000 := by have := hK'.e; omega
            have hA1 : A.length ≤ 1000000 := by have := hK'.a; omega
            have c2 := (holds_any w.heap.size F E A wr hK'.b hE1 hA1).mono (R' := fun e w1 => e = .returned (.bool true) ∧ Below w.heap.size w w1) fun e w1 ⟨h1, h2⟩ => ⟨h1, hK'.bel.trans (h2.mono hK'.bel.size)⟩
            clear hK' hr
            by_cases hq1 : q < ss.length
            · obtain rfl : q = 8 := by omega
              have t1 : (8 : Int) < ss.length := by omega
              go_wp2_with (go_at_call 14; refine c2.mono ?_; rintro _ w1 ⟨rfl, hb1⟩)
              go_ret
              exact ⟨rfl, hb1⟩
            · obtain rfl : q = ss.length := by omega
              go_wp2_with (go_at_call 14; refine c2.mono ?_; rintro _ w1 ⟨rfl, hb1⟩)
              go_ret
              exact ⟨rfl, hb1⟩
      · have t0 : ¬ (k : Int) < ss.length := by omega
        go_wp2_with fail
        go_loopw [9] (fun j wr => ∃ q : Nat, q ≤ ss.length ∧ q ≤ 8 ∧ j = .int .i64 (q : Int) ∧ KL w wr k F E A) (fun j _ => 8 - (RowKit.intOf j).toNat)
        case atStart => exact ⟨0, Nat.zero_le _, Nat.zero_le _, rfl, hK⟩
        case round =>
          obtain ⟨q, hq, hq8, rfl, hK'⟩ := hrel
          clear hK
          by_cases hql : q < ss.length ∧ q < 8
          · obtain ⟨s, hs⟩ : ∃ s, ss[q]? = some s := ⟨ss[q], List.getElem?_eq_getElem hql.1⟩
            have hmem := List.mem_of_getElem? hs
            obtain ⟨g, o, rfl, hg, hc⟩ := hr.c q s hs
            have d0 := (hK'.bel.cell (p := ⟨g, o + q, none⟩) hg).trans hc
            have t1 : (q : Int) < ss.length := by omega
            have t2 : (q : Int) < 8 := by omega
            have c1 := (Hlaw.out wr s hK'.bel hmem).mono (R' := fun e w1 => e = .returned (.bool true) ∧ KL w w1 k F E A) fun e w1 ⟨h1, h2⟩ => ⟨h1, hK'.b.below h2, hK'.e, hK'.a, hK'.bel.trans (h2.mono hK'.bel.size)⟩
            clear hK' hs hr hc
            go_wp2_with (go_at_call 4; refine c1.mono ?_; rintro _ w1 ⟨rfl, hK1⟩)
            go_roundw
            case rel => exact ⟨q + 1, by omega, by omega, by go_num, hK1⟩
            case measure => simp [RowKit.intOf]; omega
          · have hE1 : E.length ≤ 1000000 := by have := hK'.e; omega
            have hA1 : A.length ≤ 1000000 := by have := hK'.a; omega
            have c2 := (holds_any w.heap.size F E A wr hK'.b hE1 hA1).mono (R' := fun e w1 => e = .returned (.bool true) ∧ Below w.heap.size w w1) fun e w1 ⟨h1, h2⟩ => ⟨h1, hK'.bel.trans (h2.mono hK'.bel.size)⟩
            clear hK' hr
            by_cases hq1 : q < ss.length
            · obtain rfl : q = 8 := by omega
              have t1 : (8 : Int) < ss.length := by omega
              go_wp2_with (go_at_call 14; refine c2.mono ?_; rintro _ w1 ⟨rfl, hb1⟩)
              go_ret
              exact ⟨rfl, hb1⟩
            · obtain rfl : q = ss.length := by omega
              go_wp2_with (go_at_call 14; refine c2.mono ?_; rintro _ w1 ⟨rfl, hb1⟩)
              go_ret
              exact ⟨rfl, hb1⟩
end Go.Proofs.YtchfphakhmifmabGreatDoor
