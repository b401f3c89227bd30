/- The contracts of package prim's kinds: kindOf, word, isType, fits, rank. -/
import Derived.Test.YtfhphjgcmbneeaaDoorProg
import Derived.Test.YtfhphjgcmbneeaaDoorPMath
import Derived.WalkKit
import Derived.WalkSpells
import Derived.WalkLawsBesides
import Derived.ProofKit
import Derived.OpenShut
import Derived.Laws.BitsAllLaws
namespace Go.Proofs.YtfhphjgcmbneeaaDoor
open Go.ChangeShapes Go.WideShapes Go.ChangeAt Go.RowKit

theorem ret_int {k : IntKind} {a b : Int} (h : a = b) : Ending.returned (.int k a) = .returned (.int k b) := by rw [h]
theorem ret_bool {a b : Bool} (h : a = b) : Ending.returned (.bool a) = .returned (.bool b) := by rw [h]
theorem bcell {W w1 : World} (hb : Below W.heap.size W w1) : (∀ b o, b < W.heap.size → w1.cell? ⟨b, o, none⟩ = W.cell? ⟨b, o, none⟩) ∧ (∀ b o, b < W.heap.size → w1.frozen? ⟨b, o, none⟩ = W.frozen? ⟨b, o, none⟩) :=
  ⟨fun b o h => hb.cell (p := ⟨b, o, none⟩) h, fun b o h => hb.frozen (p := ⟨b, o, none⟩) h⟩
theorem bel1 (w : World) (o : Obj) : Below w.heap.size w (w.alloc o) := (Below.refl _ _).alloc (Nat.le_refl _) _

/-- A kind as a value. -/
abbrev kV (s r n m x : Int) : Value := .agg #[.int .i64 s, .int .i64 r, .int .u64 n, .int .u64 m, .int .u64 x]

/-- The table's cells, as they are laid. -/
structure KT (w : World) : Prop where
  pos : 0 < w.heap.size
  size : ∀ p : Nat, p < 11 → w.cell? ⟨0, 5 * p, none⟩ = some (.int .i64 (sz p))
  reading : ∀ p : Nat, p < 11 → w.cell? ⟨0, 5 * p + 1, none⟩ = some (.int .i64 (rd p))
  null : ∀ p : Nat, p < 11 → w.cell? ⟨0, 5 * p + 2, none⟩ = some (.int .u64 (nl p))
  least : ∀ p : Nat, p < 11 → w.cell? ⟨0, 5 * p + 3, none⟩ = some (.int .u64 (mn p))
  most : ∀ p : Nat, p < 11 → w.cell? ⟨0, 5 * p + 4, none⟩ = some (.int .u64 (mx p))
theorem KT.below {w w' : World} (h : KT w) {B : Nat} (hB : 0 < B) (hb : Below B w w') : KT w' :=
  ⟨Nat.lt_of_lt_of_le h.pos hb.size, fun p hp => (hb.cell (p := ⟨0, 5 * p, none⟩) hB).trans (h.size p hp), fun p hp => (hb.cell (p := ⟨0, 5 * p + 1, none⟩) hB).trans (h.reading p hp),
    fun p hp => (hb.cell (p := ⟨0, 5 * p + 2, none⟩) hB).trans (h.null p hp), fun p hp => (hb.cell (p := ⟨0, 5 * p + 3, none⟩) hB).trans (h.least p hp), fun p hp => (hb.cell (p := ⟨0, 5 * p + 4, none⟩) hB).trans (h.most p hp)⟩

theorem kindOf_out (p : Int) (w : World) (h : p < 0 ∨ 11 ≤ p) :
    Calls Tryd.prog 50 #[.int .i64 p] w fun e w' => e = .returned (kV 0 0 0 0 0) ∧ Below w.heap.size w w' := by
  rcases h with h | h
  · go_enter Tryd.func50, Tryd.ntmps50
    go_wp2
    exact bodyPost_ret (v := kV 0 0 0 0 0) (by simp [results, Tryd.results50, go_sem]) rfl ⟨rfl, bel1 _ _⟩
  · have h' : ¬ p < 0 := by omega
    go_enter Tryd.func50, Tryd.ntmps50
    go_wp2
    exact bodyPost_ret (v := kV 0 0 0 0 0) (by simp [results, Tryd.results50, go_sem]) rfl ⟨rfl, bel1 _ _⟩
theorem kindOf_in (q : Nat) (s r n m x : Int) (w : World) (hq : q < 11) (hp : 0 < w.heap.size) (h0 : w.cell? ⟨0, 5 * q, none⟩ = some (.int .i64 s)) (h1 : w.cell? ⟨0, 5 * q + 1, none⟩ = some (.int .i64 r))
    (h2 : w.cell? ⟨0, 5 * q + 2, none⟩ = some (.int .u64 n)) (h3 : w.cell? ⟨0, 5 * q + 3, none⟩ = some (.int .u64 m)) (h4 : w.cell? ⟨0, 5 * q + 4, none⟩ = some (.int .u64 x)) :
    Calls Tryd.prog 50 #[.int .i64 q] w fun e w' => e = .returned (kV s r n m x) ∧ Below w.heap.size w w' := by
  have hc : q = 0 ∨ q = 1 ∨ q = 2 ∨ q = 3 ∨ q = 4 ∨ q = 5 ∨ q = 6 ∨ q = 7 ∨ q = 8 ∨ q = 9 ∨ q = 10 := by omega
  rcases hc with rfl | rfl | rfl | rfl | rfl | rfl | rfl | rfl | rfl | rfl | rfl
  all_goals
    simp only [Nat.mul_zero, Nat.zero_add, Nat.reduceMul, Nat.reduceAdd] at h0 h1 h2 h3 h4
    go_enter Tryd.func50, Tryd.ntmps50
    go_wp2
    exact bodyPost_ret (v := kV s r n m x) (by simp [results, Tryd.results50, go_sem]) rfl ⟨rfl, bel1 _ _⟩
theorem kindOf_any (p : Int) (w : World) (h : KT w) :
    Calls Tryd.prog 50 #[.int .i64 p] w fun e w' => e = .returned (kV (sz p) (rd p) (nl p) (mn p) (mx p)) ∧ Below w.heap.size w w' := by
  by_cases hp : p < 0 ∨ 11 ≤ p
  · have e : kV (sz p) (rd p) (nl p) (mn p) (mx p) = kV 0 0 0 0 0 := by unfold sz rd nl mn mx; rw [kRow_out p hp]
    rw [e]; exact kindOf_out p w hp
  · obtain ⟨q, rfl⟩ : ∃ q : Nat, p = q := ⟨p.toNat, by omega⟩
    exact kindOf_in q _ _ _ _ _ w (by omega) h.pos (h.size q (by omega)) (h.reading q (by omega)) (h.null q (by omega)) (h.least q (by omega)) (h.most q (by omega))

theorem word_any (s r n m x b : Int) (w : World) (hk : KOk s r) (hs : s ≠ 0) (hb : 0 ≤ b) (hb' : b < 18446744073709551616) :
    Calls Tryd.prog 56 #[kV s r n m x, .int .u64 b] w fun e w' => e = .returned (.int .u64 (wordF s r b)) ∧ Below w.heap.size w w' := by
  rcases hk with ⟨rfl, rfl⟩ | ⟨rfl, rfl⟩ | ⟨rfl, rfl⟩ | ⟨rfl, rfl⟩ | ⟨rfl, rfl⟩ | ⟨rfl, rfl⟩ | ⟨rfl, rfl⟩ | ⟨rfl, rfl⟩ | ⟨rfl, rfl⟩ | ⟨rfl, rfl⟩ | ⟨rfl, rfl⟩
  · exact absurd rfl hs
  all_goals
    clear hs
    go_enter Tryd.func56, Tryd.ntmps56
    go_wp2
    go_ret
    refine ⟨ret_int ?_, bel1 _ _⟩
    simp only [IntKind.wrap_u64, wrap64, wordF, pw, if_true, if_false, Int.reduceEq, false_and, true_and]
    try split
    all_goals omega
end Go.Proofs.YtfhphjgcmbneeaaDoor
