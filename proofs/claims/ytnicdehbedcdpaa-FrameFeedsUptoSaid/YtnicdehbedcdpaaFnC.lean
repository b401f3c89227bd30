/- The law FrameFeeds. -/
import Derived.Test.YtnicdehbedcdpaaFnB
namespace Go.Proofs.Ytnicdehbedcdpaa
open Go.ChangeShapes Go.WideShapes Go.ChangeAt Go.RowKit

theorem FInv.p {W : World} {B N : Nat} {s : FS} (h : FInv W B N s) {a : Nat} (ha : a < 2) : W.cell? ⟨s.x5, a, none⟩ = some (pt (s.P a)) ∧ W.cell? ⟨s.x6, a, none⟩ = some (pt (s.Q a)) := by
  have ha2 : a = 0 ∨ a = 1 := by omega
  rcases ha2 with rfl | rfl
  · exact ⟨(cellA h.h5 0).trans rfl, (cellA h.h6 0).trans rfl⟩
  · exact ⟨(cellA h.h5 1).trans rfl, (cellA h.h6 1).trans rfl⟩
def fs0 (n : Nat) (lim : Int) : FS := ⟨n + 2, n + 5, fun a => n + a, fun a => n + 3 + a, fun _ => .slice none 0 0, fun _ => [], fun _ => lim, fun _ => 0, .slice none 0 0, []⟩
theorem FInv.init (w : World) (lim : Int) : FInv ((((((w.alloc (.cells #[.slice none 0 0, .int .i64 0, .int .i64 lim, .int .i64 0] 62)).alloc (.cells #[.slice none 0 0, .int .i64 0, .int .i64 lim, .int .i64 0] 62)).alloc (.cells #[pt w.heap.size, pt (w.heap.size + 1)] 50)).alloc (.cells #[.int .i64 lim, .string ⟨#[]⟩, .int .i64 0] 70)).alloc (.cells #[.int .i64 lim, .string ⟨#[]⟩, .int .i64 0] 70)).alloc (.cells #[pt (w.heap.size + 3), pt (w.heap.size + 4)] 53)) w.heap.size 0 (fs0 w.heap.size lim) := by
  have f0 := Fr.new (w := w) (B := w.heap.size) lim (Nat.le_refl _)
  have z1 : (w.alloc (.cells #[.slice none 0 0, .int .i64 0, .int .i64 lim, .int .i64 0] 62)).heap.size = w.heap.size + 1 := by rw [World.size_alloc]
  generalize w.alloc (.cells #[.slice none 0 0, .int .i64 0, .int .i64 lim, .int .i64 0] 62) = w1 at *
  have f1 := Fr.new (w := w1) (B := w.heap.size) lim (by omega)
  have f0 := f0.below (bel1 w1 (.cells #[.slice none 0 0, .int .i64 0, .int .i64 lim, .int .i64 0] 62))
  have z2 : (w1.alloc (.cells #[.slice none 0 0, .int .i64 0, .int .i64 lim, .int .i64 0] 62)).heap.size = w.heap.size + 2 := by rw [World.size_alloc, z1]
  rw [z1] at f1
  generalize w1.alloc (.cells #[.slice none 0 0, .int .i64 0, .int .i64 lim, .int .i64 0] 62) = w2 at *
  have b3 := bel1 w2 (.cells #[pt w.heap.size, pt (w.heap.size + 1)] 50)
  have h3 := heap_nw w2 (.cells #[pt w.heap.size, pt (w.heap.size + 1)] 50)
  have z3 : (w2.alloc (.cells #[pt w.heap.size, pt (w.heap.size + 1)] 50)).heap.size = w.heap.size + 3 := by rw [World.size_alloc, z2]
  have f0 := f0.below b3
  have f1 := f1.below b3
  rw [z2] at h3
  generalize w2.alloc (.cells #[pt w.heap.size, pt (w.heap.size + 1)] 50) = w3 at *
  have r3 := RF.new w3 lim
  have b4 := bel1 w3 (.cells #[.int .i64 lim, .string ⟨#[]⟩, .int .i64 0] 70)
  have z4 : (w3.alloc (.cells #[.int .i64 lim, .string ⟨#[]⟩, .int .i64 0] 70)).heap.size = w.heap.size + 4 := by rw [World.size_alloc, z3]
  have f0 := f0.below b4
  have f1 := f1.below b4
  have h3 := (b4.block (w.heap.size + 2) (by omega)).trans h3
  rw [z3] at r3
  generalize w3.alloc (.cells #[.int .i64 lim, .string ⟨#[]⟩, .int .i64 0] 70) = w4 at *
  have r4 := RF.new w4 lim
  have b5 := bel1 w4 (.cells #[.int .i64 lim, .string ⟨#[]⟩, .int .i64 0] 70)
  have z5 : (w4.alloc (.cells #[.int .i64 lim, .string ⟨#[]⟩, .int .i64 0] 70)).heap.size = w.heap.size + 5 := by rw [World.size_alloc, z4]
  have f0 := f0.below b5
  have f1 := f1.below b5
  have r3 := r3.below b5
  have h3 := (b5.block (w.heap.size + 2) (by omega)).trans h3
  rw [z4] at r4
  generalize w4.alloc (.cells #[.int .i64 lim, .string ⟨#[]⟩, .int .i64 0] 70) = w5 at *
  have b6 := bel1 w5 (.cells #[pt (w.heap.size + 3), pt (w.heap.size + 4)] 53)
  have h6 := heap_nw w5 (.cells #[pt (w.heap.size + 3), pt (w.heap.size + 4)] 53)
  have z6 : (w5.alloc (.cells #[pt (w.heap.size + 3), pt (w.heap.size + 4)] 53)).heap.size = w.heap.size + 6 := by rw [World.size_alloc, z5]
  have f0 := f0.below b6
  have f1 := f1.below b6
  have r3 := r3.below b6
  have r4 := r4.below b6
  have h3 := (b6.block (w.heap.size + 2) (by omega)).trans h3
  rw [z5] at h6
  generalize w5.alloc (.cells #[pt (w.heap.size + 3), pt (w.heap.size + 4)] 53) = w6 at *
  have hot : ∀ i k, (fs0 w.heap.size lim).hot i = some k → (i = 0 ∧ k = w.heap.size + 2) ∨ (i = 1 ∧ k = w.heap.size + 5) ∨ (i = 2 ∧ k = w.heap.size) ∨ (i = 3 ∧ k = w.heap.size + 1) ∨ (i = 4 ∧ k = w.heap.size + 3) ∨ (i = 5 ∧ k = w.heap.size + 4) := fun i k hk => by
    match i, hk with
    | 0, hk => cases hk; exact .inl ⟨rfl, rfl⟩
    | 1, hk => cases hk; exact .inr (.inl ⟨rfl, rfl⟩)
    | 2, hk => cases hk; exact .inr (.inr (.inl ⟨rfl, rfl⟩))
    | 3, hk => cases hk; exact .inr (.inr (.inr (.inl ⟨rfl, rfl⟩)))
    | 4, hk => cases hk; exact .inr (.inr (.inr (.inr (.inl ⟨rfl, rfl⟩))))
    | 5, hk => cases hk; exact .inr (.inr (.inr (.inr (.inr ⟨rfl, rfl⟩))))
    | 6, hk => cases hk
    | 7, hk => cases hk
    | 8, hk => cases hk
    | n + 9, hk => cases hk
  refine ⟨by omega, h3, h6, fun a ha => ?_, World.ownsRow_nil _ _ _ _, (fun k e he => by cases he), fun i k hi => ?_, fun i j hij k hi hj => ?_, (fun k e he => by cases he), (fun k e he => by cases he)⟩
  · have ha2 : a = 0 ∨ a = 1 := by omega
    rcases ha2 with rfl | rfl
    · exact ⟨f0, Buf.nil _ _, r3, fun _ => rfl, Nat.zero_le _⟩
    · exact ⟨f1, Buf.nil _ _, r4, fun _ => rfl, Nat.zero_le _⟩
  · rcases hot i k hi with h | h | h | h | h | h <;> omega
  · rcases hot i k hi with h | h | h | h | h | h <;> rcases hot j k hj with h' | h' | h' | h' | h' | h' <;> omega
end Go.Proofs.Ytnicdehbedcdpaa
