/- take, parcel. -/
import Derived.Test.YtnicdehbedcdpaaFmC
namespace Go.Proofs.Ytnicdehbedcdpaa
open Go.ChangeShapes Go.WideShapes Go.ChangeAt Go.RowKit

theorem Fr.set {w : World} {B R : Nat} {v : Value} {L : List Nat} {fr : Nat} {lim er : Int} (h : Fr w B R v L fr lim er) (i : Nat) (u : Value) :
    (∀ o x, o ≠ i → w.cell? ⟨R, o, none⟩ = some x → (w.setCell ⟨R, i, none⟩ u).cell? ⟨R, o, none⟩ = some x) ∧ (∀ o, (w.setCell ⟨R, i, none⟩ u).frozen? ⟨R, o, none⟩ = false) ∧ Rwb (w.setCell ⟨R, i, none⟩ u) B v L ∧ R < (w.setCell ⟨R, i, none⟩ u).heap.size :=
  ⟨fun o x ho hx => (World.cell?_setCell_other w _ _ _ (fun e' => ho (by injection e' with _ e2; exact e2.symm))).trans hx, fun o => by rw [World.frozen?_setCell]; exact h.fz o,
    h.buf.same fun k hk => Below.heap_setCell _ _ _ _ (fun e => h.ne (by rw [hk, e])), by simpa [World.setCell] using h.lt⟩
theorem Fr.front {w : World} {B R : Nat} {v : Value} {L : List Nat} {fr : Nat} {lim er : Int} (h : Fr w B R v L fr lim er) (n : Nat) (hn : n ≤ L.length) : Fr (w.setCell ⟨R, 1, none⟩ (.int .i64 (n : Int))) B R v L n lim er := by
  obtain ⟨a, b, c, d⟩ := h.set 1 (.int .i64 (n : Int))
  exact ⟨a 0 _ (by decide) h.c0, World.cell?_setCell_same w ⟨R, 1, none⟩ _ h.c1, a 2 _ (by decide) h.c2, a 3 _ (by decide) h.c3, b, c, hn, h.ne, h.by_, h.len, h.lo, d⟩
theorem Fr.drewN {w : World} {B R : Nat} {v : Value} {L : List Nat} {fr : Nat} {lim er : Int} (h : Fr w B R v L fr lim er) (n : Nat) : Fr (w.drewN n) B R v L fr lim er := h.below (below_drewN (Below.refl _ _) n)
/-- All blocks that lay before are as they were, but R and those of o. -/
structure Kx (R : Nat) (o : Option Nat) (w w' : World) : Prop where
  os : w'.os = w.os
  tape : w'.tape = w.tape
  output : w'.output = w.output
  size : w.heap.size ≤ w'.heap.size
  block : ∀ k, k < w.heap.size → k ≠ R → o ≠ some k → w'.heap[k]? = w.heap[k]?
theorem Kx.refl (R : Nat) (o : Option Nat) (w : World) : Kx R o w w := ⟨rfl, rfl, rfl, Nat.le_refl _, fun _ _ _ _ => rfl⟩
theorem Kx.trans {R : Nat} {o : Option Nat} {a b c : World} (h : Kx R o a b) (k : Kx R o b c) : Kx R o a c :=
  ⟨k.os.trans h.os, k.tape.trans h.tape, k.output.trans h.output, Nat.le_trans h.size k.size, fun i hi hn ho => (k.block i (Nat.lt_of_lt_of_le hi h.size) hn ho).trans (h.block i hi hn ho)⟩
/-- .. where the second's other blocks are new ones. -/
theorem Kx.trans' {R : Nat} {o o2 : Option Nat} {a b c : World} (h : Kx R o a b) (k : Kx R o2 b c) (ho : ∀ k, o2 = some k → o = some k ∨ a.heap.size ≤ k) : Kx R o a c :=
  ⟨k.os.trans h.os, k.tape.trans h.tape, k.output.trans h.output, Nat.le_trans h.size k.size, fun i hi hn hne => (k.block i (Nat.lt_of_lt_of_le hi h.size) hn (fun e => by rcases ho i e with e | e; exact hne e; omega)).trans (h.block i hi hn hne)⟩
theorem Kx.of {R : Nat} {o : Option Nat} {w w' : World} (h : Below w.heap.size w w') : Kx R o w w' := ⟨h.os, h.tape, h.output, h.size, fun k hk _ _ => h.block k hk⟩
theorem Kx.any {R : Nat} {o : Option Nat} {w w' : World} (h : Kx R none w w') : Kx R o w w' := ⟨h.os, h.tape, h.output, h.size, fun k hk hn _ => h.block k hk hn (by simp)⟩
theorem Kx.set (R i : Nat) (o : Option Nat) (w : World) (u : Value) : Kx R o w (w.setCell ⟨R, i, none⟩ u) := ⟨rfl, rfl, rfl, by simp [World.setCell], fun k _ hk _ => Below.heap_setCell _ _ _ _ hk⟩
theorem Kx.below {R B : Nat} {w w' : World} (h : Kx R none w w') (hR : B ≤ R) (hB : B ≤ w.heap.size) : Below B w w' := ⟨h.os, h.tape, h.output, h.size, fun k hk => h.block k (by omega) (by omega) (by simp)⟩
theorem Kx.below' {R B : Nat} {o : Option Nat} {w w' : World} (h : Kx R o w w') (hR : B ≤ R) (hB : B ≤ w.heap.size) (ho : ∀ k, o = some k → B ≤ k) : Below B w w' := ⟨h.os, h.tape, h.output, h.size, fun k hk => h.block k (by omega) (by omega) (fun e => by have := ho k e; omega)⟩
theorem take_any {w : World} {B R g cap : Nat} {L : List Nat} {fr : Nat} {lim er : Int} (h : Fr w B R (.slice (some ⟨g, 0, none⟩) L.length cap) L fr lim er) (hcap : L.length ≤ cap) (n : Nat) (h0 : 0 < n) (hn : fr + n ≤ L.length) :
    Calls Try.prog 42 #[.pointer (some ⟨R, 0, none⟩), .int .i64 (n : Int)] w fun e w' => e = .returned (.slice (some ⟨g, fr, none⟩) n (cap - fr)) ∧ ∃ k, w' = (w.setCell ⟨R, 1, none⟩ (.int .i64 ((fr + n : Nat) : Int))).drewN k := by
  have e0 := h.c0
  have e1 := h.c1
  have f1 := h.fz 1
  have hlen := h.len
  obtain ⟨a, b, _, d⟩ := h.set 1 (.int .i64 ((fr + n : Nat) : Int))
  have e0' := a 0 _ (by decide) e0
  have e1' := World.cell?_setCell_same w ⟨R, 1, none⟩ (.int .i64 ((fr + n : Nat) : Int)) h.c1
  have s1 : IntKind.i64.wrap ((fr : Int) + (n : Int)) = ((fr + n : Nat) : Int) := by rw [IntKind.wrap_i64]; omega
  have s2 : IntKind.i64.wrap (((fr + n : Nat) : Int) - (n : Int)) = (fr : Int) := by rw [IntKind.wrap_i64]; omega
  have s3 : ((fr + n : Nat) : Int) = (fr : Int) + (n : Int) := by omega
  have hc0 : ¬ cap - fr = 0 := by omega
  have hc1 : fr < cap := by omega
  clear h a b d
  generalize hw1 : w.setCell ⟨R, 1, none⟩ (.int .i64 ((fr + n : Nat) : Int)) = w1 at e0' e1' ⊢
  rw [s3] at hw1 e1' s1 s2
  go_enter Try.func42, Try.ntmps42
  go_wp2_with fail
  go_quiet (fail)
  go_wp2_with fail
  go_ret
  exact ⟨by simp, _, rfl⟩
end Go.Proofs.Ytnicdehbedcdpaa
