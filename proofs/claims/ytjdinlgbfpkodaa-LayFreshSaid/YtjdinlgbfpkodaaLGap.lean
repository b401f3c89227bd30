/- Gaps, Plain. -/
import Derived.Test.YtjdinlgbfpkodaaLRefl
import Derived.Test.YtjdinlgbfpkodaaLPlc
namespace Go.Proofs.Ytjdinlgbfpkodaa
open Go.ChangeShapes Go.WideShapes Go.ChangeAt Go.RowKit Go.Shelf

theorem fillZ_some {k : Nat} {l : List Rm} {b : Int} {s : St} {c : Int} (h : (fillZ k l b).2.2 = some (s, c)) : fillR k l s0 0 = .ok s ∧ c = sayB b s.e ∧ s.e ≤ c ∧ blkErr b = 0 := by
  unfold fillZ at h
  by_cases hb : blkErr b = 0
  · rw [if_pos hb] at h
    cases hf : fillR k l s0 0 with
    | error p => rw [hf] at h; cases h
    | ok s' =>
      rw [hf] at h
      dsimp only at h
      by_cases hs : sayB b s'.e < s'.e
      · rw [if_pos hs] at h; cases h
      · rw [if_neg hs] at h
        cases h
        exact ⟨rfl, rfl, by omega, hb⟩
  · rw [if_neg hb] at h; cases h
theorem blkErr_ok {b : Int} (h : blkErr b = 0) : -1 ≤ b ∧ b ≤ 65535 := by
  unfold blkErr at h
  split at h
  · cases h
  · split at h
    · cases h
    · omega
theorem refillZ_some {k : Nat} {l : List Rm} {os : List Int} {b : Int} {s : St} {c : Int} (h : refillZ k l os b = some (s, c)) : 0 ≤ b ∧ l.length = os.length ∧ (∀ o ∈ os, 0 ≤ o) ∧ fillR k (seatsL l os) s0 0 = .ok s ∧ c = b ∧ s.e ≤ c ∧ b ≤ 65535 ∧ StOk s l.length := by
  unfold refillZ at h
  by_cases hc : b < 0 ∨ l.length ≠ os.length ∨ (∃ o ∈ os, o < 0)
  · rw [if_pos hc] at h; cases h
  · rw [if_neg hc] at h
    obtain ⟨h1, h2, h3, h4⟩ := fillZ_some h
    have hb : 0 ≤ b := by
      rcases Int.lt_or_le b 0 with h | h
      · exact absurd (.inl h) hc
      · exact h
    have hl : l.length = os.length := Classical.byContradiction fun h => hc (.inr (.inl h))
    have hs : c = b := by rw [h2]; unfold sayB; rw [if_neg (by omega)]
    refine ⟨hb, hl, fun o ho => ?_, h1, hs, h3, (blkErr_ok h4).2, ?_⟩
    · rcases Int.lt_or_le o 0 with h | h
      · exact absurd (.inr (.inr ⟨o, ho, h⟩)) hc
      · exact h
    · have := fillR_len _ _ _ _ h1 stOk0
      unfold seatsL at this
      rw [List.length_zipWith, Nat.zero_add, ← hl, Nat.min_self] at this
      exact this
def plainZ (l : List Rm) (os : List Int) (b : Int) : List Rm × Int × Int := match refillZ 2 l os b with
  | none => ([], 0, 73)
  | some (s, c) => (s.tol, if c = s.e then -1 else c, 0)
def gapsZ (l : List Rm) (os : List Int) (b : Int) : List Rm × Int := match refillZ 1 l os b with
  | none => ([], 73)
  | some (s, c) => (s.tol ++ gapL s.t c, 0)
set_option maxHeartbeats 4000000 in
theorem Plain_any (l : List Rm) (os : List Int) (pp po : Option Addr) (cp co : Nat) (b : Int) (w : World) (hr : SlR w pp w.heap.size l) (hro : SlZ w po w.heap.size os) (hl : l.length ≤ 8796093021952) (hm : os.length ≤ 17592186043904) (hx : ∀ x ∈ l, x.ok) (hxo : ∀ o ∈ os, i64ok o) :
    Calls Try.prog 19 #[.slice pp l.length cp, .slice po os.length co, .int .i64 b] w fun r w' => ∃ v, r = .returned (.tuple #[v, .int .i64 (plainZ l os b).2.1, .int .i64 (plainZ l os b).2.2]) ∧ ROwn w' w.heap.size v (plainZ l os b).1 ∧ Below w.heap.size w w' := by
  have hmf := hmfA
  have hB := bel1 w rowO
  have hs : (w.alloc rowO).heap.size = w.heap.size + 1 := by rw [World.size_alloc]
  have cF := refill_any 2 31 w.heap.size 8796093021952 l os pp po cp co b (w.alloc rowO) (rc_new w) (one_plain _) ent_plain (hr.up hB) (hro.up hB) (by omega) hl (Nat.le_refl _) hm hx hxo
  unfold plainZ
  unfold RfPost at cF
  obtain ⟨Z, hZ⟩ : ∃ Z, refillZ 2 l os b = Z := ⟨_, rfl⟩
  rw [hZ] at cF ⊢
  cases Z with
  | none =>
    dsimp only at cF ⊢
    go_enter Try.func19, Try.ntmps19
    go_wp2_with (go_at_call 30; refine cF.mono ?_; rintro _ w1 ⟨rfl, hK⟩)
    exact bodyPost_ret (v := .tuple #[nilS, .int .i64 0, .int .i64 73]) (by simp [results, Try.results19, go_sem]) rfl ⟨_, rfl, World.ownsRow_nil _ _ _ 2, hB.trans (hK.below (Nat.le_refl _) (by omega))⟩
  | some p =>
    obtain ⟨s, c⟩ := p
    dsimp only at cF ⊢
    have hu := fun W => unsaid_any c s.e W
    generalize (if c = s.e then (-1 : Int) else c) = U at hu ⊢
    have cF2 : Calls Try.prog 30 #[.pointer (some ⟨w.heap.size, 0, none⟩), .slice pp l.length cp, .slice po os.length co, .func (.func 31) #[.pointer (some ⟨w.heap.size, 0, none⟩)] #[], .int .i64 b] (w.alloc rowO) fun r w1 => r = .returned (.int .i64 0) ∧ ∃ p3 c3, w1.cell? ⟨w.heap.size, 4, none⟩ = some (.slice p3 s.tol.length c3) ∧ w1.cell? ⟨w.heap.size, 2, none⟩ = some (.int .i64 c) ∧ w1.cell? ⟨w.heap.size, 0, none⟩ = some (.int .i64 s.e) ∧ Hid (Below w.heap.size w w1 ∧ ROwn w1 w.heap.size (.slice p3 s.tol.length c3) s.tol) :=
      cF.mono fun r w1 ⟨h0, hK, hS⟩ => by
        obtain ⟨v, hC, h0', _, h2, hz⟩ := hS.r (by decide)
        obtain ⟨p3, c3, e3, _⟩ := hz.shape
        have q4 := hC.c 4 (by decide)
        have q2 := hC.c 2 (by decide)
        have q0 := hC.c 0 (by decide)
        rw [e3] at q4 hz
        rw [h2] at q2
        rw [h0'] at q0
        exact ⟨h0, p3, c3, q4, q2, q0, ⟨hB.trans (hK.below (Nat.le_refl _) (by omega)), own_mono hz (by omega)⟩⟩
    clear cF
    go_enter Try.func19, Try.ntmps19
    go_wp2_with (go_at_call 30; refine cF2.mono ?_; rintro _ w1 ⟨rfl, p3, c3, q4, q2, q0, HB⟩)
    go_quiet ((go_at_call 32; exact Calls.quiet_of_same (hu _)))
    go_wp2_with fail
    exact bodyPost_ret (v := .tuple #[.slice p3 s.tol.length c3, .int .i64 U, .int .i64 0]) (by simp [results, Try.results19, go_sem]) rfl ⟨_, rfl, own_same HB.out.2 fun _ _ => rfl, tdr HB.out.1⟩
set_option maxHeartbeats 4000000 in
theorem Gaps_any (l : List Rm) (os : List Int) (pp po : Option Addr) (cp co : Nat) (b : Int) (w : World) (hr : SlR w pp w.heap.size l) (hro : SlZ w po w.heap.size os) (hl : l.length ≤ 8796093021952) (hm : os.length ≤ 17592186043904) (hx : ∀ x ∈ l, x.ok) (hxo : ∀ o ∈ os, i64ok o) :
    Calls Try.prog 20 #[.slice pp l.length cp, .slice po os.length co, .int .i64 b] w fun r w' => ∃ v, r = .returned (.tuple #[v, .int .i64 (gapsZ l os b).2]) ∧ ROwn w' w.heap.size v (gapsZ l os b).1 ∧ Below w.heap.size w w' := by
  have hmf := hmfA
  have hB := bel1 w rowO
  have hs : (w.alloc rowO).heap.size = w.heap.size + 1 := by rw [World.size_alloc]
  have cF := refill_any 1 33 w.heap.size 8796093021952 l os pp po cp co b (w.alloc rowO) (rc_new w) (one_gap _) ent_gap (hr.up hB) (hro.up hB) (by omega) hl (Nat.le_refl _) hm hx hxo
  unfold gapsZ
  unfold RfPost at cF
  obtain ⟨Z, hZ⟩ : ∃ Z, refillZ 1 l os b = Z := ⟨_, rfl⟩
  rw [hZ] at cF ⊢
  cases Z with
  | none =>
    dsimp only at cF ⊢
    go_enter Try.func20, Try.ntmps20
    go_wp2_with (go_at_call 30; refine cF.mono ?_; rintro _ w1 ⟨rfl, hK⟩)
    exact bodyPost_ret (v := .tuple #[nilS, .int .i64 73]) (by simp [results, Try.results20, go_sem]) rfl ⟨_, rfl, World.ownsRow_nil _ _ _ 2, hB.trans (hK.below (Nat.le_refl _) (by omega))⟩
  | some p =>
    obtain ⟨s, c⟩ := p
    obtain ⟨z1, z2, _, _, z5, z6, z7, z8⟩ := refillZ_some hZ
    have z9 := z8.l
    have z10 := z8.t
    have zc : 0 ≤ c ∧ c ≤ 65535 := by omega
    clear z1 z5 z6 z7
    dsimp only at cF ⊢
    have cF2 : Calls Try.prog 30 #[.pointer (some ⟨w.heap.size, 0, none⟩), .slice pp l.length cp, .slice po os.length co, .func (.func 33) #[.pointer (some ⟨w.heap.size, 0, none⟩)] #[], .int .i64 b] (w.alloc rowO) fun r w1 => r = .returned (.int .i64 0) ∧ w1.cell? ⟨w.heap.size, 2, none⟩ = some (.int .i64 c) ∧ Hid (Below w.heap.size w w1 ∧ SRow 1 w1 w.heap.size (w.heap.size + 1) s c ∧ w.heap.size + 1 ≤ w1.heap.size) :=
      cF.mono fun r w1 ⟨h0, hK, hS⟩ => by
        rw [hs] at hS
        have hS2 := hS
        obtain ⟨v, hC, h0', _, h2, hz⟩ := hS2.r (by decide)
        have q2 := hC.c 2 (by decide)
        rw [h2] at q2
        exact ⟨h0, q2, ⟨hB.trans (hK.below (Nat.le_refl _) (by omega)), hS, by have := hK.size; omega⟩⟩
    have cT : ∀ w1, SRow 1 w1 w.heap.size (w.heap.size + 1) s c → w.heap.size + 1 ≤ w1.heap.size → Below w.heap.size w w1 → Calls Try.prog 34 #[.pointer (some ⟨w.heap.size, 0, none⟩), .int .i64 c] w1 fun r w2 => r = .returned (.tuple #[]) ∧ ∃ p3 c3, w2.cell? ⟨w.heap.size, 4, none⟩ = some (.slice p3 (s.tol ++ gapL s.t c).length c3) ∧ Hid (Below w.heap.size w w2 ∧ ROwn w2 w.heap.size (.slice p3 (s.tol ++ gapL s.t c).length c3) (s.tol ++ gapL s.t c)) := fun w1 h1 h2 h3 =>
      (tellGap_any w.heap.size (w.heap.size + 1) s c c w1 h1 (by omega) h2 (by omega) z10 ⟨by omega, by omega⟩).mono fun r w2 ⟨h0, hK, hS⟩ => by
        obtain ⟨v, hC, _, _, _, hz⟩ := hS.r (by decide)
        obtain ⟨p3, c3, e3, _⟩ := hz.shape
        have q4 := hC.c 4 (by decide)
        rw [e3] at q4 hz
        exact ⟨h0, p3, c3, q4, ⟨h3.trans (hK.below (Nat.le_refl _) (by omega)), own_mono hz (by omega)⟩⟩
    generalize s.tol ++ gapL s.t c = TL at cT ⊢
    clear cF hZ z8 z10 z9 z2 zc
    go_enter Try.func20, Try.ntmps20
    go_wp2_with (first
      | (go_at_call 30; refine cF2.mono ?_; rintro _ w1 ⟨rfl, q2, HB⟩; have c2 := cT w1 HB.out.2.1 HB.out.2.2 HB.out.1)
      | (go_at_call 34; refine c2.mono ?_; rintro _ w2 ⟨rfl, p3, c3, q4, HC⟩))
    exact bodyPost_ret (v := .tuple #[.slice p3 TL.length c3, .int .i64 0]) (by simp [results, Try.results20, go_sem]) rfl ⟨_, rfl, HC.out.2, HC.out.1⟩
end Go.Proofs.Ytjdinlgbfpkodaa
