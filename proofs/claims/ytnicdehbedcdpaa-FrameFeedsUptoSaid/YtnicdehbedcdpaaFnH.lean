/- A new framer in one place. -/
import Derived.Test.YtnicdehbedcdpaaFnG
namespace Go.Proofs.Ytnicdehbedcdpaa
open Go.ChangeShapes Go.WideShapes Go.ChangeAt Go.RowKit

theorem set2 {W : World} {X : Nat} {v0 v1 v : Value} {t : TypeId} (h : W.heap[X]? = some (.cells #[v0, v1] t (0, 0))) {a : Nat} (ha : a < 2) : (W.setCell ⟨X, a, none⟩ v).heap[X]? = some (.cells #[if 0 = a then v else v0, if 1 = a then v else v1] t (0, 0)) := by
  have ha2 : a = 0 ∨ a = 1 := by omega
  rcases ha2 with rfl | rfl <;> simp [World.setCell, Array.getElem?_modify, h]
theorem szSet (W : World) (p : Addr) (v : Value) : (W.setCell p v).heap.size = W.heap.size := by simp [World.setCell]
theorem FInv.newPair {W : World} {B N O : Nat} {s : FS} (h : FInv W B N s) (hz : W.heap.size = O + 1) {a : Nat} (ha : a < 2) (lim : Int) {y5 y6 : Nat} (h5 : s.x5 = y5) (h6 : s.x6 = y6) (v2 : Value) (hOy : O ≠ y5) (hO2 : W.cell? ⟨O, 2, none⟩ = some v2) :
    (W.alloc (.cells #[.slice none 0 0, .int .i64 0, .int .i64 lim, .int .i64 0] 62)).cell? ⟨y5, a, none⟩ = some (pt (s.P a)) ∧ (W.alloc (.cells #[.slice none 0 0, .int .i64 0, .int .i64 lim, .int .i64 0] 62)).frozen? ⟨y5, a, none⟩ = false ∧
    ∀ W2, W2 = (W.alloc (.cells #[.slice none 0 0, .int .i64 0, .int .i64 lim, .int .i64 0] 62)).setCell ⟨y5, a, none⟩ (pt (O + 1)) → W2.heap.size = O + 1 + 1 ∧ W2.cell? ⟨O, 2, none⟩ = some v2 ∧
      (W2.alloc (.cells #[.int .i64 lim, .string ⟨#[]⟩, .int .i64 0] 70)).cell? ⟨y6, a, none⟩ = some (pt (s.Q a)) ∧ (W2.alloc (.cells #[.int .i64 lim, .string ⟨#[]⟩, .int .i64 0] 70)).frozen? ⟨y6, a, none⟩ = false ∧
      ∀ W3, W3 = (W2.alloc (.cells #[.int .i64 lim, .string ⟨#[]⟩, .int .i64 0] 70)).setCell ⟨y6, a, none⟩ (pt (O + 1 + 1)) → FInv W3 B N (s.renew a (O + 1) (O + 1 + 1) lim) ∧ Below B W W3 := by
  subst h5; subst h6
  have hp := h.p ha
  have l5 := (h.lt 0 _ rfl)
  have l6 := (h.lt 1 _ rfl)
  have hne : s.x5 ≠ s.x6 := fun e => h.ap 0 1 (by omega) s.x5 rfl (by rw [e]; rfl)
  have f0 := Fr.new (w := W) (B := B) lim h.bz
  have bA := bel1 W (.cells #[.slice none 0 0, .int .i64 0, .int .i64 lim, .int .i64 0] 62)
  have zA : (W.alloc (.cells #[.slice none 0 0, .int .i64 0, .int .i64 lim, .int .i64 0] 62)).heap.size = O + 1 + 1 := by rw [World.size_alloc, hz]
  rw [hz] at f0
  generalize W.alloc (.cells #[.slice none 0 0, .int .i64 0, .int .i64 lim, .int .i64 0] 62) = WA at *
  have hA5 := (bA.block _ l5.2).trans h.h5
  refine ⟨(bA.cell (p := ⟨s.x5, a, none⟩) l5.2).trans hp.1, frozA hA5 a, fun W2 e2 => ?_⟩
  have k2 := Kx.set s.x5 a none WA (pt (O + 1))
  have hB5 := set2 (v := pt (O + 1)) hA5 ha
  have z2 := szSet WA ⟨s.x5, a, none⟩ (pt (O + 1))
  rw [← e2] at k2 hB5 z2
  have z2' : W2.heap.size = O + 1 + 1 := z2.trans zA
  have u2 : ∀ k, k < W.heap.size → k ≠ s.x5 → W2.heap[k]? = W.heap[k]? := fun k hk hn => (k2.block k (by omega) hn (by simp)).trans (bA.block k hk)
  have f1 := f0.kx (w' := W2) (by omega) (k2.block (O + 1) (by omega) (by have := l5.2; omega) (by simp)) (fun k hk => by cases hk)
  clear e2 z2
  have r0 := RF.new W2 lim
  have bC := bel1 W2 (.cells #[.int .i64 lim, .string ⟨#[]⟩, .int .i64 0] 70)
  have zC : (W2.alloc (.cells #[.int .i64 lim, .string ⟨#[]⟩, .int .i64 0] 70)).heap.size = O + 1 + 1 + 1 := by rw [World.size_alloc, z2']
  rw [z2'] at r0
  generalize W2.alloc (.cells #[.int .i64 lim, .string ⟨#[]⟩, .int .i64 0] 70) = WC at *
  have hC6 := (bC.block _ (by omega)).trans ((u2 _ l6.2 (fun e => hne e.symm)).trans h.h6)
  have hC5 := (bC.block s.x5 (by omega)).trans hB5
  refine ⟨z2', (World.cell?_of_block (a := ⟨O, 2, none⟩) (u2 O (by omega) hOy)).trans hO2, (World.cell?_of_block (a := ⟨s.x6, a, none⟩) (((bC.block s.x6 (by omega)).trans (u2 s.x6 l6.2 (fun e => hne e.symm))))).trans hp.2, frozA hC6 a, fun W3 e3 => ?_⟩
  have k3 := Kx.set s.x6 a none WC (pt (O + 1 + 1))
  have hD6 := set2 (v := pt (O + 1 + 1)) hC6 ha
  have z3 := szSet WC ⟨s.x6, a, none⟩ (pt (O + 1 + 1))
  rw [← e3] at k3 hD6 z3
  have z3' : W3.heap.size = O + 1 + 1 + 1 := z3.trans zC
  have hD5 := (k3.block s.x5 (by omega) hne (by simp)).trans hC5
  have u3 : ∀ k, k < W.heap.size → k ≠ s.x5 → k ≠ s.x6 → W3.heap[k]? = W.heap[k]? := fun k hk hn hn6 => (k3.block k (by omega) hn6 (by simp)).trans ((bC.block k (by omega)).trans (u2 k hk hn))
  have f3 := (f1.below bC).kx (w' := W3) (by omega) (k3.block (O + 1) (by omega) (by have := l6.2; omega) (by simp)) (fun k hk => by cases hk)
  have r3 := r0.same (w' := W3) (k3.block (O + 1 + 1) (by omega) (by have := l6.2; omega) (by simp)) (by omega)
  have ha2 : a = 0 ∨ a = 1 := by omega
  refine ⟨h.renew (by omega) a ha (O + 1) (O + 1 + 1) lim u3 (by omega) (by omega) (by omega) ?_ ?_ f3 r3, ⟨k3.os.trans (bC.os.trans (k2.os.trans bA.os)), k3.tape.trans (bC.tape.trans (k2.tape.trans bA.tape)), k3.output.trans (bC.output.trans (k2.output.trans bA.output)), by omega, fun k hk => u3 k (by have := h.bz; omega) (by have := l5.1; omega) (by have := l6.1; omega)⟩⟩
  · rcases ha2 with rfl | rfl <;> exact hD5
  · rcases ha2 with rfl | rfl <;> exact hD6
theorem FInv.book {W : World} {B N : Nat} {s : FS} (h : FInv W B N s) {p : Option Addr} {n c : Nat} (hv : s.vb = .slice p n c) (k : Nat) (e : Ent) (hk : s.es[k]? = some e) :
    ∃ g, p = some ⟨g, 0, none⟩ ∧ W.cell? ⟨g, 0 + k * 3, none⟩ = some (.slice e.pa e.n e.ca) ∧ W.cell? ⟨g, 0 + k * 3 + 1, none⟩ = some (.slice e.pb (e.n + 1) e.cb) ∧ W.cell? ⟨g, 0 + k * 3 + 2, none⟩ = some (.int .i64 (k : Int)) := by
  have hb := h.bk
  rw [hv] at hb
  have hx : ∀ j, j < 3 → (entF s.es 0)[k * 3 + j]? = (entV e k)[j]? := fun j hj => by
    have := entF_get s.es 0 k e hk j hj
    rwa [Nat.zero_add] at this
  have h0 := hx 0 (by omega)
  rcases hb.2 with ⟨e0, e1⟩ | ⟨g, c', cur, e0, _⟩
  · have := (List.getElem?_eq_some_iff.1 hk).1
    omega
  · injection e0 with e1 e2 e3
    subst e1
    have hc := fun (j : Nat) (hj3 : j < 3) (hj : j < (entV e k).length) => World.ownsRow.cells hb (g := g) rfl (k * 3 + j) ((entV e k)[j]) (by rw [hx j hj3]; exact List.getElem?_eq_getElem hj)
    have q0 := hc 0 (show 0 < 3 by omega) (show 0 < (entV e k).length from (by show 0 < 3; omega))
    have q1 := hc 1 (show 1 < 3 by omega) (show 1 < (entV e k).length from (by show 1 < 3; omega))
    have q2 := hc 2 (show 2 < 3 by omega) (show 2 < (entV e k).length from (by show 2 < 3; omega))
    rw [addrP] at q0 q1 q2
    refine ⟨g, rfl, q0, ?_, ?_⟩
    · rw [Nat.add_assoc]; exact q1
    · rw [Nat.add_assoc]; exact q2
end Go.Proofs.Ytnicdehbedcdpaa
