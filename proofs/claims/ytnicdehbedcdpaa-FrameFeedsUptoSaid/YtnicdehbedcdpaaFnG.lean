/- What a step leaves. -/
import Derived.Test.YtnicdehbedcdpaaFnF
namespace Go.Proofs.Ytnicdehbedcdpaa
open Go.ChangeShapes Go.WideShapes Go.ChangeAt Go.RowKit

/-- But for one framer's pair, what lay before is as it was. -/
structure Un (s : FS) (a : Nat) (W W' : World) : Prop where
  os : W'.os = W.os
  tape : W'.tape = W.tape
  output : W'.output = W.output
  size : W.heap.size ≤ W'.heap.size
  block : ∀ k, k < W.heap.size → k ≠ s.Q a → k ≠ s.P a → (s.v a).ownBlock ≠ some k → W'.heap[k]? = W.heap[k]?
theorem Un.refl (s : FS) (a : Nat) (W : World) : Un s a W W := ⟨rfl, rfl, rfl, Nat.le_refl _, fun _ _ _ _ _ => rfl⟩
theorem Un.below {s : FS} {a H : Nat} {W W' W'' : World} (h : Un s a W W') (hb : Below H W' W'') (hH : W.heap.size ≤ H) : Un s a W W'' :=
  ⟨hb.os.trans h.os, hb.tape.trans h.tape, hb.output.trans h.output, Nat.le_trans h.size hb.size, fun k hk h1 h2 h3 => (hb.block k (by omega)).trans (h.block k hk h1 h2 h3)⟩
theorem Un.ref {s : FS} {a : Nat} {W W' W'' : World} (h : Un s a W W') (hb : Kx (s.Q a) none W' W'') : Un s a W W'' :=
  ⟨hb.os.trans h.os, hb.tape.trans h.tape, hb.output.trans h.output, Nat.le_trans h.size hb.size, fun k hk h1 h2 h3 => (hb.block k (Nat.lt_of_lt_of_le hk h.size) h1 (by simp)).trans (h.block k hk h1 h2 h3)⟩
theorem Un.feed {s : FS} {a : Nat} {W W' W'' : World} (h : Un s a W W') (hb : Kx (s.P a) (s.v a).ownBlock W' W'') : Un s a W W'' :=
  ⟨hb.os.trans h.os, hb.tape.trans h.tape, hb.output.trans h.output, Nat.le_trans h.size hb.size, fun k hk h1 h2 h3 => (hb.block k (Nat.lt_of_lt_of_le hk h.size) h2 h3).trans (h.block k hk h1 h2 h3)⟩
theorem Un.low {s : FS} {a B : Nat} {W W' : World} (h : Un s a W W') (hB : B ≤ W.heap.size) (hQ : B ≤ s.Q a) (hP : B ≤ s.P a) (hv : ∀ k, (s.v a).ownBlock = some k → B ≤ k) : Below B W W' :=
  ⟨h.os, h.tape, h.output, h.size, fun k hk => h.block k (by omega) (by omega) (by omega) (fun e => by have := hv k e; omega)⟩
/-- The hot blocks of one pair. -/
theorem FInv.hots {W : World} {B N : Nat} {s : FS} (h : FInv W B N s) {a : Nat} (ha : a < 2) : s.hot (4 + a) = some (s.Q a) ∧ s.hot (2 + a) = some (s.P a) ∧ s.hot (6 + a) = (s.v a).ownBlock ∧ s.P a ≠ s.Q a ∧ (s.v a).ownBlock ≠ some (s.Q a) ∧ (s.v a).ownBlock ≠ some (s.P a) ∧ s.vb.ownBlock ≠ some (s.Q a) ∧ s.vb.ownBlock ≠ some (s.P a) ∧ ∀ k, s.vb.ownBlock = some k → (s.v a).ownBlock ≠ some k := by
  have ha2 : a = 0 ∨ a = 1 := by omega
  have h4 : s.hot (4 + a) = some (s.Q a) := by rcases ha2 with rfl | rfl <;> rfl
  have h2 : s.hot (2 + a) = some (s.P a) := by rcases ha2 with rfl | rfl <;> rfl
  have h6 : s.hot (6 + a) = (s.v a).ownBlock := by rcases ha2 with rfl | rfl <;> rfl
  refine ⟨h4, h2, h6, fun e => h.ap (2 + a) (4 + a) (by omega) _ h2 (by rw [h4, e]), fun e => h.ap (4 + a) (6 + a) (by omega) _ h4 (by rw [h6]; exact e), fun e => h.ap (2 + a) (6 + a) (by omega) _ h2 (by rw [h6]; exact e), fun e => h.ap (4 + a) 8 (by omega) _ h4 e, fun e => h.ap (2 + a) 8 (by omega) _ h2 e, fun k e e2 => h.ap 8 (6 + a) (by omega) k e (by rw [h6]; exact e2)⟩
theorem Buf.tail {w : World} {B : Nat} {v : Value} {L : List Nat} {x : Nat} (h : Buf w B v (L ++ [x])) (hL : ∀ b ∈ L, b < 256) : ∃ g c, v = .slice (some ⟨g, 0, none⟩) (L.length + 1) c ∧ L.length + 1 ≤ c ∧ BRow w (some ⟨g, 0, none⟩) w.heap.size L ∧ w.cell? ⟨g, L.length, none⟩ = some (.int .u8 (x : Int)) ∧ B ≤ g ∧ g < w.heap.size ∧ (∀ o, w.frozen? ⟨g, o, none⟩ = false) := by
  have hl := fun k hk => ownLt h (k := k) hk
  rcases Rwb.of h with ⟨rfl, e⟩ | ⟨g, c, rfl, h1, h2, h3, h4⟩
  · simp at e
  · rw [List.length_append, List.length_singleton] at h3
    refine ⟨g, c, by rw [List.length_append, List.length_singleton], h3, ⟨fun j y hy => ⟨g, 0, rfl, h2, by rw [Nat.zero_add]; exact h4 j y (by rw [List.getElem?_append_left (List.getElem?_eq_some_iff.1 hy).1]; exact hy)⟩, hL, (fun e => by cases e), (fun a e _ => by cases e; rfl)⟩, h4 _ _ (by rw [List.getElem?_append_right (Nat.le_refl _), Nat.sub_self]; rfl), h1, h2, fun o => ?_⟩
    rcases h.2 with ⟨e0, _⟩ | ⟨g', _, _, e0, _, hg, _⟩
    · cases e0
    · injection e0 with e1 _ _
      injection e1 with e1
      injection e1 with e1
      subst e1
      exact frozA hg o
theorem POwn.blk {W : World} {base n c : Nat} {p : Option Addr} {l : List Pcl} (h : POwn W base (.slice p n c) l) {a : Addr} (hp : p = some a) : (Value.slice p n c).ownBlock = some a.block ∧ base ≤ a.block ∧ a.block < W.heap.size := by
  have hl := fun k hk => ownLt h (k := k) hk
  rcases h.2 with ⟨e0, _⟩ | ⟨g, _, _, e0, _⟩
  · injection e0 with e1
    rw [e1] at hp
    cases hp
  · injection e0 with e1 _ _
    subst e1
    cases hp
    exact ⟨rfl, hl g rfl⟩
theorem FInv.mono {W : World} {B N N' : Nat} {s : FS} (h : FInv W B N s) (hN : N ≤ N') : FInv W B N' s :=
  { h with fr := fun a ha => by obtain ⟨h1, h2, h3, h4, h5⟩ := h.fr a ha; exact ⟨h1, h2, h3, h4, Nat.le_trans h5 hN⟩ }
end Go.Proofs.Ytnicdehbedcdpaa
