/- Package look, paths as texts: plain mathematics. -/
import Derived.Test.YtfikmlckcbnppaaDoorNam2
namespace Go.Proofs.YtfikmlckcbnppaaDoor

/-- May the byte stand in a symbol, at its front or behind it? -/
def symC (c : Nat) (first : Bool) : Bool := nsym c && !(ndig c && first)
/-- Where the symbol that begins at f ends, having come to a; k more at most. -/
def nmE (s : ByteArray) (f : Nat) : Nat → Nat → Nat
  | 0, a => a
  | k + 1, a => if a < s.size ∧ symC (ch s a) (decide (a = f)) = true then nmE s f k (a + 1) else a
/-- A number that begins at f: where it ends, and the number, having come to a with n; k more bytes at most. -/
def nuE (s : ByteArray) (f : Nat) : Nat → Nat → Nat → Nat × Nat
  | 0, a, n => (a, n)
  | k + 1, a, n => if a < s.size ∧ ndig (ch s a) = true ∧ (a = f ∨ 0 < n) ∧ 10 * n + (ch s a - 48) ≤ 65535 then nuE s f k (a + 1) (10 * n + (ch s a - 48)) else (a, n)
/-- A step that begins at a: its name, its entry, and the place behind it; or the place where it fails. -/
def stP (s : ByteArray) (a : Nat) : Option (ByteArray × Int) × Nat :=
  if nmE s a 64 a = a then (none, a)
  else if nmE s a 64 a < s.size ∧ ch s (nmE s a 64 a) = 91 then
    (if (nuE s (nmE s a 64 a + 1) (s.size - (nmE s a 64 a + 1)) (nmE s a 64 a + 1) 0).1 = nmE s a 64 a + 1 ∨ ¬ ((nuE s (nmE s a 64 a + 1) (s.size - (nmE s a 64 a + 1)) (nmE s a 64 a + 1) 0).1 < s.size ∧ ch s (nuE s (nmE s a 64 a + 1) (s.size - (nmE s a 64 a + 1)) (nmE s a 64 a + 1) 0).1 = 93)
      then (none, (nuE s (nmE s a 64 a + 1) (s.size - (nmE s a 64 a + 1)) (nmE s a 64 a + 1) 0).1)
      else (some (s.extract a (nmE s a 64 a), ((nuE s (nmE s a 64 a + 1) (s.size - (nmE s a 64 a + 1)) (nmE s a 64 a + 1) 0).2 : Int)), (nuE s (nmE s a 64 a + 1) (s.size - (nmE s a 64 a + 1)) (nmE s a 64 a + 1) 0).1 + 1))
  else (some (s.extract a (nmE s a 64 a), -1), nmE s a 64 a)
/-- The steps from a on, behind those of l; k steps at most. -/
def paP (s : ByteArray) : Nat → Nat → List (ByteArray × Int) → Option (List (ByteArray × Int)) × Nat
  | 0, a, _ => (none, a)
  | k + 1, a, l => match stP s a with
    | (none, b) => (none, b)
    | (some x, b) => if b = s.size then (some (l ++ [x]), 0) else if ch s b = 46 then paP s k (b + 1) (l ++ [x]) else (none, b)
def pathZ (s : ByteArray) : Option (List (ByteArray × Int)) × Nat := if s.size = 0 then (some [], 0) else paP s (s.size + 1) 0 []
theorem nmE_ge (s : ByteArray) (f : Nat) : ∀ k a, a ≤ nmE s f k a ∧ nmE s f k a ≤ a + k ∧ (a ≤ s.size → nmE s f k a ≤ s.size)
  | 0, a => ⟨Nat.le_refl _, Nat.le_refl _, fun h => h⟩
  | k + 1, a => by
    unfold nmE
    split
    · rename_i h
      have := nmE_ge s f k (a + 1)
      exact ⟨by omega, by omega, fun _ => this.2.2 (by omega)⟩
    · exact ⟨Nat.le_refl _, by omega, fun h => h⟩
theorem nuE_ge (s : ByteArray) (f : Nat) : ∀ k a n, a ≤ (nuE s f k a n).1 ∧ (a ≤ s.size → (nuE s f k a n).1 ≤ s.size) ∧ (n ≤ 65535 → (nuE s f k a n).2 ≤ 65535)
  | 0, a, n => ⟨Nat.le_refl _, fun h => h, fun h => h⟩
  | k + 1, a, n => by
    unfold nuE
    split
    · rename_i h
      have := nuE_ge s f k (a + 1) (10 * n + (ch s a - 48))
      exact ⟨by omega, fun _ => this.2.1 (by omega), fun _ => this.2.2 h.2.2.2⟩
    · exact ⟨Nat.le_refl _, fun h => h, fun h => h⟩
theorem stP_ge {s : ByteArray} {a : Nat} (ha : a ≤ s.size) : a ≤ (stP s a).2 ∧ (stP s a).2 ≤ s.size ∧ ((stP s a).1 ≠ none → a < (stP s a).2) := by
  obtain ⟨h1, -, h3⟩ := nmE_ge s a 64 a
  have h4 := h3 ha
  unfold stP
  split
  · exact ⟨Nat.le_refl _, ha, fun h => absurd rfl h⟩
  · split
    · rename_i hn hb
      obtain ⟨g1, g2, -⟩ := nuE_ge s (nmE s a 64 a + 1) (s.size - (nmE s a 64 a + 1)) (nmE s a 64 a + 1) 0
      have g4 := g2 (by omega)
      split
      · exact ⟨by show a ≤ (nuE s (nmE s a 64 a + 1) (s.size - (nmE s a 64 a + 1)) (nmE s a 64 a + 1) 0).1; omega, g4, fun h => absurd rfl h⟩
      · rename_i hx
        have hx2 : (nuE s (nmE s a 64 a + 1) (s.size - (nmE s a 64 a + 1)) (nmE s a 64 a + 1) 0).1 < s.size := by
          rcases Nat.lt_or_ge (nuE s (nmE s a 64 a + 1) (s.size - (nmE s a 64 a + 1)) (nmE s a 64 a + 1) 0).1 s.size with h | h
          · exact h
          · exact absurd (.inr fun hh => by omega) hx
        exact ⟨by show a ≤ (nuE s (nmE s a 64 a + 1) (s.size - (nmE s a 64 a + 1)) (nmE s a 64 a + 1) 0).1 + 1; omega, hx2, fun _ => by show a < (nuE s (nmE s a 64 a + 1) (s.size - (nmE s a 64 a + 1)) (nmE s a 64 a + 1) 0).1 + 1; omega⟩
    · rename_i hn hb
      exact ⟨h1, h4, fun _ => by show a < nmE s a 64 a; omega⟩
/-- A piece of a text is a symbol: all its bytes may stand there. -/
theorem sym_piece {s : ByteArray} {f b : Nat} (hb : b < s.size) (hf : f ≤ b) (hall : ∀ i, f ≤ i → i < b → symC (ch s i) (decide (i = f)) = true) (hl : b - f < 64) : symbolB (s.extract f (b + 1)) = symC (ch s b) (decide (b = f)) := by
  have hsz : (s.extract f (b + 1)).size = b + 1 - f := size_ext s f (b + 1) (by omega)
  have hch : ∀ i, i < b + 1 - f → ch (s.extract f (b + 1)) i = ch s (f + i) := fun i hi => ch_ext s f (b + 1) i hi
  have hsm : ∀ c x, symC c x = true ↔ nsym c = true ∧ (x = true → ndig c = false) := fun c x => by
    unfold symC
    cases nsym c <;> cases ndig c <;> cases x <;> simp
  unfold symbolB
  rw [hsz, hch 0 (by omega), Nat.add_zero]
  cases hc : symC (ch s b) (decide (b = f)) with
  | true =>
    have h2 := (hsm _ _).1 hc
    refine decide_eq_true ⟨by omega, by omega, ?_, fun i hi => ?_⟩
    · by_cases e : b = f
      · subst e
        exact h2.2 (by simp)
      · exact ((hsm _ _).1 (hall f (Nat.le_refl _) (by omega))).2 (by simp)
    · rw [hch i hi]
      by_cases e : f + i = b
      · rw [e]; exact h2.1
      · exact ((hsm _ _).1 (hall (f + i) (by omega) (by omega))).1
  | false =>
    refine decide_eq_false fun ⟨_, _, h3, h4⟩ => ?_
    have h5 := h4 (b - f) (by omega)
    rw [hch _ (by omega), show f + (b - f) = b by omega] at h5
    have : symC (ch s b) (decide (b = f)) = true := (hsm _ _).2 ⟨h5, fun e => by
      have := of_decide_eq_true e
      subst this
      exact h3⟩
    rw [hc] at this
    cases this
theorem sym_long {s : ByteArray} {f b : Nat} (hb : b < s.size) (hl : 64 ≤ b - f) : symbolB (s.extract f (b + 1)) = false := by
  have hsz : (s.extract f (b + 1)).size = b + 1 - f := size_ext s f (b + 1) (by omega)
  unfold symbolB
  exact decide_eq_false fun ⟨_, h, _⟩ => by rw [hsz] at h; omega
end Go.Proofs.YtfikmlckcbnppaaDoor
