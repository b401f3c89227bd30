/- The document's printed: an element's text behind a buffer. -/
import Derived.Test.YtchfphakhmifmaaGreatDoorPC
import Derived.Test.YtchfphakhmifmaaGreatDoorPA
import Derived.Test.YtchfphakhmifmaaGreatDoorMR
namespace Go.Proofs.YtchfphakhmifmaaGreatDoor
open Go.ChangeShapes Go.WideShapes Go.ChangeAt Go.RowKit Go.Lib

/-- What an append onto a buffer leaves. -/
structure Bk (v v' : Value) (w w' : World) : Prop where
  os : w'.os = w.os
  tape : w'.tape = w.tape
  output : w'.output = w.output
  size : w.heap.size ≤ w'.heap.size
  block : ∀ k, k < w.heap.size → v.ownBlock ≠ some k → w'.heap[k]? = w.heap[k]?
  nb : ∀ k, v'.ownBlock = some k → v.ownBlock = some k ∨ w.heap.size ≤ k
theorem Bk.refl (v : Value) (w : World) : Bk v v w w := ⟨rfl, rfl, rfl, Nat.le_refl _, fun _ _ _ => rfl, fun _ h => .inl h⟩
theorem Bk.of {v : Value} {w w' : World} (h : Below w.heap.size w w') : Bk v v w w' := ⟨h.os, h.tape, h.output, h.size, fun k hk _ => h.block k hk, fun _ h => .inl h⟩
theorem Bk.trans {v v1 v2 : Value} {a b c : World} (h : Bk v v1 a b) (q : Bk v1 v2 b c) : Bk v v2 a c :=
  ⟨q.os.trans h.os, q.tape.trans h.tape, q.output.trans h.output, Nat.le_trans h.size q.size,
   fun k hk h1 => (q.block k (Nat.lt_of_lt_of_le hk h.size) (fun e => by rcases h.nb k e with e | e; exact h1 e; omega)).trans (h.block k hk h1),
   fun k e => by rcases q.nb k e with e | e; exact h.nb k e; exact .inr (Nat.le_trans h.size e)⟩
theorem Bk.below {v v' : Value} {B : Nat} {L : List Nat} {w w' : World} (h : Bk v v' w w') (hb : Buf w B v L) (hB : B ≤ w.heap.size) : Below B w w' :=
  ⟨h.os, h.tape, h.output, h.size, fun k hk => h.block k (by omega) fun e => by have := (ownLt hb e).1; omega⟩
theorem bkOf {w W1 w' : World} {v v' : Value} (hb : Below w.heap.size w W1) (h1 : Below 0 W1 w') (h2 : ∀ k, k < W1.heap.size → v.ownBlock ≠ some k → w'.heap[k]? = W1.heap[k]?) (h3 : ∀ k, v'.ownBlock = some k → v.ownBlock = some k ∨ W1.heap.size ≤ k) : Bk v v' w w' :=
  ⟨h1.os.trans hb.os, h1.tape.trans hb.tape, h1.output.trans hb.output, Nat.le_trans hb.size h1.size, fun k hk hne => (h2 k (Nat.lt_of_lt_of_le hk hb.size) hne).trans (hb.block k hk), fun k e => by rcases h3 k e with e | e; exact .inl e; exact .inr (Nat.le_trans hb.size e)⟩
theorem bkStr {w : World} {B : Nat} {v : Value} {L : List Nat} (h : Buf w B v L) (t : ByteArray) (hl : L.length + t.size ≤ 140737488355328) (hB : B ≤ w.heap.size) :
    ∃ v' w', (∀ ty, (Builtin.append_ #[52, 9] ty #[v, .string t]).run Tryz.prog w = .ok v' w') ∧ (Buf w' B v' (L ++ lOf t) ∧ Bk v v' w w') := by
  obtain ⟨v', w', h1, h2, h3, h4, h5⟩ := tbufStr h t hl hB
  exact ⟨v', w', h1, h2, bkOf (Below.refl _ _) (h3.mono (Nat.zero_le _)) h4 h5⟩
theorem bkLit1 {w : World} {B : Nat} {v : Value} {L : List Nat} (h : Buf w B v L) (c : Nat) (z : Int) (hz : z = (c : Int)) (hl : L.length + 1 ≤ 140737488355328) (hB : B ≤ w.heap.size) :
    ∃ v' w', (∀ ty, (Builtin.append_ #[52, 52] ty #[v, .slice (some ⟨w.heap.size, 0, none⟩) 1 1]).run Tryz.prog (w.alloc (.cells #[.int .u8 z] 5)) = .ok v' w') ∧ (Buf w' B v' (L ++ [c]) ∧ Bk v v' w w') := by
  subst hz
  obtain ⟨v', w', h1, h2, h3, h4, h5⟩ := tbufAppend (w := w.alloc (.cells (([c] : List Nat).map cU).toArray 5)) (tx := 52) (M := [c]) (h.below (bel1 w _)) (src_lit _ w.heap.size 1 1 [c] rfl (heap_alloc_new w _)) hl (by simp; omega)
  exact ⟨v', w', h1, h2, bkOf (bel1 w _) (h3.mono (Nat.zero_le _)) h4 h5⟩
theorem bkLit2 {w : World} {B : Nat} {v : Value} {L : List Nat} (h : Buf w B v L) (c d : Nat) (z y : Int) (hz : z = (c : Int)) (hy : y = (d : Int)) (hl : L.length + 2 ≤ 140737488355328) (hB : B ≤ w.heap.size) :
    ∃ v' w', (∀ ty, (Builtin.append_ #[52, 52] ty #[v, .slice (some ⟨w.heap.size, 0, none⟩) 2 2]).run Tryz.prog (w.alloc (.cells #[.int .u8 z, .int .u8 y] 5)) = .ok v' w') ∧ (Buf w' B v' (L ++ [c, d]) ∧ Bk v v' w w') := by
  subst hz hy
  obtain ⟨v', w', h1, h2, h3, h4, h5⟩ := tbufAppend (w := w.alloc (.cells (([c, d] : List Nat).map cU).toArray 5)) (tx := 52) (M := [c, d]) (h.below (bel1 w _)) (src_lit _ w.heap.size 2 2 [c, d] rfl (heap_alloc_new w _)) hl (by simp; omega)
  exact ⟨v', w', h1, h2, bkOf (bel1 w _) (h3.mono (Nat.zero_le _)) h4 h5⟩
theorem kids_at (es : List El) (d : Int) : ∀ (r : List El) (k : Nat), r = es.drop k → ∀ n ∈ kidsG d r k, ∃ y, es[n]? = some y ∧ y.d = d + 1
  | [], _, _, n, hn => by cases hn
  | e :: r, k, h, n, hn => by
    have h1 : es[k]? = some e := by
      have := congrArg (fun l => l[0]?) h
      simpa using this.symm
    have h2 : r = es.drop (k + 1) := by
      have := congrArg (List.drop 1) h
      rw [List.drop_drop] at this
      simpa using this
    unfold kidsG at hn
    split at hn
    · split at hn
      · rename_i hd
        rcases List.mem_cons.1 hn with rfl | hn
        · exact ⟨e, h1, hd⟩
        · exact kids_at es d r (k + 1) h2 n hn
      · exact kids_at es d r (k + 1) h2 n hn
    · cases hn
theorem flat_part {α : Type} (f : α → List Nat) : ∀ (l : List α) (j : Nat) (a : α), l[j]? = some a → ((l.take j).flatMap f).length + (f a).length ≤ (l.flatMap f).length
  | [], _, _, h => by cases h
  | b :: l, 0, a, h => by
    cases h
    rw [List.flatMap_cons, List.length_append]
    simp
  | b :: l, j + 1, a, h => by
    have ih := flat_part f l j a h
    rw [List.take_succ_cons, List.flatMap_cons, List.flatMap_cons, List.length_append, List.length_append]
    omega
theorem flat_step {α : Type} (f : α → List Nat) {l : List α} {j : Nat} {a : α} (h : l[j]? = some a) : (l.take (j + 1)).flatMap f = (l.take j).flatMap f ++ f a := by
  rw [List.take_add_one, h, List.flatMap_append]
  simp
end Go.Proofs.YtchfphakhmifmaaGreatDoor
