/- Rooms that can be laid, made; mod; fixed. -/
import Derived.Test.YtjdinlgbfpkodaaLPlc
namespace Go.Proofs.Ytjdinlgbfpkodaa
open Go.ChangeShapes Go.WideShapes Go.ChangeAt Go.RowKit Go.Shelf

theorem emod_cases (v n : Int) (hn : 0 < n) : v % n = if v.tmod n < 0 then v.tmod n + n else v.tmod n := by
  have h1 := Int.emod_nonneg v (show n ≠ 0 by omega)
  have h2 := Int.emod_lt_of_pos v hn
  rw [Int.tmod_eq_emod]
  have h3 : (n.natAbs : Int) = n := by omega
  by_cases h : 0 ≤ v ∨ n ∣ v
  · rw [if_pos h]
    rw [if_neg (by omega)]
    omega
  · rw [if_neg h, h3, if_pos (by omega)]
    omega
theorem tmod_b (v n : Int) (hn : 0 < n) : -n < v.tmod n ∧ v.tmod n < n := by
  have h1 := Int.emod_nonneg v (show n ≠ 0 by omega)
  have h2 := Int.emod_lt_of_pos v hn
  rw [Int.tmod_eq_emod]
  have h3 : (n.natAbs : Int) = n := by omega
  by_cases h : 0 ≤ v ∨ n ∣ v
  · rw [if_pos h]; omega
  · rw [if_neg h, h3]
    have : v % n ≠ 0 := fun e => h (.inr (Int.dvd_of_emod_eq_zero e))
    omega
theorem mod_any (v n : Int) (hn : 0 < n) (hn2 : n ≤ 4611686018427387904) (w : World) : Calls Try.prog 14 #[.int .i64 v, .int .i64 n] w fun r w' => r = .returned (.int .i64 (v % n)) ∧ w' = w := by
  rw [emod_cases v n hn]
  have hb := tmod_b v n hn
  have h0 : ¬ n = 0 := by omega
  have h0b : (n == 0) = false := beq_eq_false_iff_ne.2 h0
  have hw1 : IntKind.i64.wrap (v.tmod n) = v.tmod n := by rw [IntKind.wrap_i64]; omega
  by_cases h : v.tmod n < 0
  · rw [if_pos h]
    have hw2 : IntKind.i64.wrap (v.tmod n + n) = v.tmod n + n := by rw [IntKind.wrap_i64]; omega
    go_enter Try.func14, Try.ntmps14
    go_wp2_with fail
    go_ret
    exact ⟨rfl, rfl⟩
  · rw [if_neg h]
    go_enter Try.func14, Try.ntmps14
    go_wp2_with fail
    go_ret
    exact ⟨rfl, rfl⟩
/-- What is made of one number pair. -/
def gapS (x : Rm) : Int := if 0 ≤ x.of then x.of % 40 else 0
def roomS (e : Int) (x : Rm) : Rm := ⟨x.sz % 70, if 0 ≤ x.of then e + gapS x else -1⟩
def madeR : List Rm → Int → List Rm × List Int × Int
  | [], e => ([], [], e)
  | x :: r, e => let m := madeR r (e + gapS x + x.sz % 70); (roomS e x :: m.1, (e + gapS x) :: m.2.1, m.2.2)
def madeZ (l : List Rm) : List Rm × List Int × Int := madeR (l.take 60) 0
theorem gapS_b (x : Rm) : 0 ≤ gapS x ∧ gapS x < 40 := by unfold gapS; split <;> omega
theorem lay_room (e : Int) (x : Rm) (h0 : 0 ≤ e) (h1 : e ≤ 65000) : layErr (roomS e x) e = 0 ∧ layFrom (roomS e x) e = e + gapS x := by
  have hg := gapS_b x
  have hf : layFrom (roomS e x) e = e + gapS x := by
    unfold layFrom roomS
    dsimp only
    by_cases h : 0 ≤ x.of
    · rw [if_pos h, if_neg (by omega)]
    · rw [if_neg h, if_pos rfl]
      unfold gapS
      rw [if_neg h]
      omega
  refine ⟨?_, hf⟩
  unfold layErr
  rw [hf]
  have hs : (roomS e x).sz = x.sz % 70 := rfl
  rw [hs, if_neg (by omega), if_neg (by omega), if_neg (by omega)]
theorem madeR_end : ∀ (l : List Rm) (e : Int), e ≤ (madeR l e).2.2 ∧ (madeR l e).2.2 ≤ e + 108 * l.length
  | [], e => by simp [madeR]
  | x :: r, e => by
    have hg := gapS_b x
    have ih := madeR_end r (e + gapS x + x.sz % 70)
    simp only [madeR, List.length_cons]
    omega
theorem madeR_len : ∀ (l : List Rm) (e : Int), (madeR l e).1.length = l.length ∧ (madeR l e).2.1.length = l.length
  | [], e => by simp [madeR]
  | x :: r, e => by
    have ih := madeR_len r (e + gapS x + x.sz % 70)
    simp only [madeR, List.length_cons]
    omega
theorem madeR_fill : ∀ (l : List Rm) (s : St) (i : Nat), 0 ≤ s.e → s.e + 108 * l.length ≤ 65000 → fillR 0 (madeR l s.e).1 s i = .ok { s with e := (madeR l s.e).2.2, off := s.off ++ (madeR l s.e).2.1 }
  | [], s, i, _, _ => by simp [madeR, fillR]
  | x :: r, s, i, h0, h1 => by
    have hg := gapS_b x
    rw [List.length_cons] at h1
    have hl := lay_room s.e x h0 (by omega)
    simp only [madeR, fillR]
    rw [if_pos hl.1]
    have hst : stp 0 s (roomS s.e x) = { s with e := s.e + gapS x + x.sz % 70, off := s.off ++ [s.e + gapS x] } := by
      unfold stp
      rw [if_pos rfl, hl.2]
      rfl
    rw [hst]
    have ih := madeR_fill r { s with e := s.e + gapS x + x.sz % 70, off := s.off ++ [s.e + gapS x] } (i + 1) (by dsimp only; omega) (by dsimp only; omega)
    dsimp only at ih
    rw [ih]
    simp
theorem madeZ_fill (l : List Rm) : fillR 0 (madeZ l).1 s0 0 = .ok { s0 with e := (madeZ l).2.2, off := (madeZ l).2.1 } := by
  have := madeR_fill (l.take 60) s0 0 (by decide) (by simp [s0]; omega)
  unfold madeZ
  simpa [s0] using this
theorem madeZ_b (l : List Rm) : 0 ≤ (madeZ l).2.2 ∧ (madeZ l).2.2 ≤ 6480 ∧ (madeZ l).1.length ≤ 60 ∧ (madeZ l).2.1.length = (madeZ l).1.length := by
  have h1 := madeR_end (l.take 60) 0
  have h2 := madeR_len (l.take 60) 0
  have h3 : (l.take 60).length ≤ 60 := by simp; omega
  unfold madeZ
  omega
theorem madeR_ok : ∀ (l : List Rm) (e : Int), 0 ≤ e → e + 108 * l.length ≤ 65000 → ∀ x ∈ (madeR l e).1, x.ok
  | [], e, _, _ => by simp [madeR]
  | x :: r, e, h0, h1 => by
    have hg := gapS_b x
    rw [List.length_cons] at h1
    simp only [madeR]
    intro y hy
    rcases List.mem_cons.1 hy with rfl | hy
    · refine ⟨?_, ?_⟩
      · show i64ok (x.sz % 70); unfold i64ok; omega
      · show i64ok (if 0 ≤ x.of then e + gapS x else -1)
        unfold i64ok
        split <;> omega
    · exact madeR_ok r _ (by omega) (by omega) y hy
theorem madeZ_ok (l : List Rm) : ∀ x ∈ (madeZ l).1, x.ok := madeR_ok _ 0 (by decide) (by simp; omega)
end Go.Proofs.Ytjdinlgbfpkodaa
