/- The contracts of the functions that read an item. -/
import Derived.Test.YthiilkmnbjgoaaaQuo
namespace Go.Proofs.Ythiilkmnbjgoaaa
open Go.ChangeShapes Go.WideShapes Go.ChangeAt Go.RowKit

/-- take of a text's bytes, as they are converted. -/
theorem take_str (g : Nat) (s : ByteArray) (a n : Nat) (v : Value) (L : List Nat) (x : Option Value) (t : ByteArray) (c G m : Nat) (W : World) (hG : W.heap.size = G) (hm : t.size = m) (h : Rd W g s a v L x) (hl : L.length + t.size ≤ 140737488355328) (ha : a + n ≤ 9223372036854775807) :
    Calls Try.prog 40 #[.pointer (some ⟨g, 0, none⟩), .int .i64 (n : Int), .slice (some ⟨G, 0, none⟩) m c] (Lib.bytesWorld W 5 t) fun e w' => e = .returned (.bool true) ∧ (∃ v', Rd w' g s (a + n) v' (L ++ lOf t) x) ∧ Below g W w' := by
  subst hG hm
  have hb := Lib.bytesWorld_below W 5 t
  have := take_any g s a n v L (lOf t) x ⟨W.heap.size, 0, none⟩ c (Lib.bytesWorld W 5 t) (h.below hb) (fun j u hu => by
      have hadd : (⟨W.heap.size, 0, none⟩ : Addr).add j = ⟨W.heap.size, j, none⟩ := by unfold Addr.add; split <;> simp_all
      have hj : j < t.size := by
        have := (List.getElem?_eq_some_iff.1 hu).1
        rw [List.length_map, lOf_length] at this
        exact this
      rw [hadd, Lib.bytesWorld_cell W _ _ j hj, ← hu]
      have h3 : j < t.data.toList.length := by rw [tl_len]; exact hj
      have e : (lOf t)[j]? = some (t.data.toList.getD j 0).toNat := by unfold lOf; simp only [List.getElem?_map, List.getD, List.getElem?_eq_getElem h3, Option.map_some, Option.getD_some]
      rw [List.getElem?_map, e]; rfl) (fun j => by
      have hadd : (⟨W.heap.size, 0, none⟩ : Addr).add j = ⟨W.heap.size, j, none⟩ := by unfold Addr.add; split <;> simp_all
      have := h.lt
      rw [hadd]
      simp
      omega) (by rw [lOf_length]; exact hl) ha
  rw [lOf_length] at this
  refine this.mono ?_
  rintro e w' ⟨rfl, h1, h2, h3⟩
  exact ⟨rfl, h1, (hb.mono (Nat.le_of_lt h.lt)).trans h2⟩
/-- take of one byte. -/
theorem take_byte (g : Nat) (s : ByteArray) (a n : Nat) (v : Value) (L : List Nat) (x : Option Value) (b : Nat) (c G : Nat) (W : World) (hG : W.heap.size = G) (h : Rd W g s a v L x) (hl : L.length + 1 ≤ 140737488355328) (ha : a + n ≤ 9223372036854775807) :
    Calls Try.prog 40 #[.pointer (some ⟨g, 0, none⟩), .int .i64 (n : Int), .slice (some ⟨G, 0, none⟩) 1 c] (W.alloc (.cells #[.int .u8 (b : Int)] 5)) fun e w' => e = .returned (.bool true) ∧ (∃ v', Rd w' g s (a + n) v' (L ++ [b]) x) ∧ Below g W w' := by
  subst hG
  have hb := bel1 W (.cells #[.int .u8 (b : Int)] 5)
  have := take_any g s a n v L [b] x ⟨W.heap.size, 0, none⟩ c (W.alloc (.cells #[.int .u8 (b : Int)] 5)) (h.below hb) (World.news_of_block (heap_alloc_new W _)) (fun j => by
      have hadd : (⟨W.heap.size, 0, none⟩ : Addr).add j = ⟨W.heap.size, j, none⟩ := by unfold Addr.add; split <;> simp_all
      have := h.lt
      rw [hadd]
      simp
      omega) hl ha
  refine this.mono ?_
  rintro e w' ⟨rfl, h1, h2, h3⟩
  exact ⟨rfl, h1, (hb.mono (Nat.le_of_lt h.lt)).trans h2⟩
theorem Rd.drewN {w : World} {g : Nat} {s : ByteArray} {a : Nat} {v : Value} {L : List Nat} {x : Option Value} (h : Rd w g s a v L x) (n : Nat) : Rd (w.drewN n) g s a v L x :=
  h.below (bdN (Below.refl _ _) n)
set_option maxHeartbeats 1000000 in
theorem qplain_any (g : Nat) (s : ByteArray) (a : Nat) (v : Value) (L : List Nat) (x : Option Value) (w : World) (h : Rd w g s a v L x) (ha : a ≤ s.size) (hl : L.length + s.size ≤ 140737488355328) :
    Calls Try.prog 32 #[.pointer (some ⟨g, 0, none⟩)] w fun r w' => ∃ e, a ≤ e ∧ e ≤ s.size ∧ (∀ j, a ≤ j → j < e → plainB (ch s j) = true) ∧ (e < s.size → plainB (ch s e) = false) ∧ Below g w w' ∧
      ((e = a ∧ r = .returned (.bool false) ∧ Rd w' g s a v L x) ∨ (a < e ∧ r = .returned (.bool true) ∧ ∃ v', Rd w' g s e v' (L ++ lOf (s.extract a e)) x)) := by
  have c0 := h.h0
  have c1 := h.h1
  go_enter Try.func32, Try.ntmps32
  go_wp2
  go_loop [3] (fun i => ∃ k : Nat, a + k ≤ s.size ∧ i = .int .i64 ((a : Int) + (k : Int)) ∧ (∀ j, a ≤ j → j < a + k → plainB (ch s j) = true)) (fun i => s.size - (intOf i).toNat)
  case atStart => exact ⟨0, by omega, by go_num, fun j h1 h2 => by omega⟩
  case round =>
    obtain ⟨k, hk, rfl, hpl⟩ := hrel
    by_cases hlt : a + k < s.size
    · have d : decide ((a : Int) + (k : Int) < (s.size : Int)) = true := by simp; omega
      have ix : ∀ w : World, (Instr.index 9 (.string s) (.int .i64 ((a : Int) + (k : Int)))).run Try.prog w = .ok (.int .u8 (ch s (a + k) : Int)) w := fun w => idx (w := w) s (a + k) hlt .i64
      cases hp : plainB (ch s (a + k))
      · by_cases hk0 : k = 0
        · have ek : ((a : Int) + (k : Int) == (a : Int)) = true := by simp; omega
          have hk' : Hid (k = 0) := hk0
          clear hk0
          go_wp2_with (go_at_call 41; refine (isPlain_any _ _).mono ?_; rintro e w1 ⟨rfl, hw1⟩; subst w1)
          go_ret
          exact ⟨a, by omega, by omega, fun j h1 h2 => by omega, fun _ => by (first | exact hp | (have := hk'.out; subst this; exact hp)), Below.refl _ _, Or.inl ⟨rfl, rfl, h⟩⟩
        · have ek : ((a : Int) + (k : Int) == (a : Int)) = false := by simp; omega
          have hsl : ∀ w : World, (Instr.slice 9 (.string s) (some (.int .i64 (a : Int))) (some (.int .i64 ((a : Int) + (k : Int)))) none).run Try.prog w = .ok (.string (s.extract a (a + k))) w := fun w => by
            rw [run_slice_string w 9 s .i64 .i64 _ _ Try.underlying9 (by omega) (by omega) (by omega)]; rfl
          have hez : (s.extract a (a + k)).size = k := by rw [size_ext s a (a + k) hk]; omega
          have hcv := fun W => conv_bytes (s.extract a (a + k)) W
          go_wp2_with (go_at_call 41; refine (isPlain_any _ _).mono ?_; rintro e w1 ⟨rfl, hw1⟩; subst w1)
          go_quiet (fail)
          go_wp2_with (go_at_call 40; refine (take_str g s a k v L x (s.extract a (a + k)) _ _ _ (w.drewN nq) rfl hez (h.drewN nq) (by rw [hez]; omega) (by omega)).mono ?_; rintro e w1 ⟨rfl, ⟨v', hR⟩, hb1⟩)
          go_ret
          exact ⟨a + k, by omega, hk, hpl, fun hh => by (first | exact hp | (have := hk'.out; subst this; exact hp)), (bdN (Below.refl _ _) nq).trans hb1, Or.inr ⟨by omega, rfl, v', hR⟩⟩
      · go_wp2_with (go_at_call 41; refine (isPlain_any _ _).mono ?_; rintro e w1 ⟨rfl, hw1⟩; subst w1)
        go_round
        case rel => exact ⟨k + 1, by omega, by go_num, fun j h1 h2 => by
          by_cases hj : j = a + k
          · rw [hj]; exact hp
          · exact hpl j h1 (by omega)⟩
        case measure => simp [intOf]; omega
    · have d : decide ((a : Int) + (k : Int) < (s.size : Int)) = false := by simp; omega
      by_cases hk0 : k = 0
      · have ek : ((a : Int) + (k : Int) == (a : Int)) = true := by simp; omega
        have hk' : Hid (k = 0) := hk0
        clear hk0
        go_wp2_with (go_at_call 41; refine (isPlain_any _ _).mono ?_; rintro e w1 ⟨rfl, hw1⟩; subst w1)
        go_ret
        exact ⟨a, by omega, by omega, fun j h1 h2 => by omega, fun _ => by (first | omega | (have := hk'.out; omega)), Below.refl _ _, Or.inl ⟨rfl, rfl, h⟩⟩
      · have ek : ((a : Int) + (k : Int) == (a : Int)) = false := by simp; omega
        have hsl : ∀ w : World, (Instr.slice 9 (.string s) (some (.int .i64 (a : Int))) (some (.int .i64 ((a : Int) + (k : Int)))) none).run Try.prog w = .ok (.string (s.extract a (a + k))) w := fun w => by
          rw [run_slice_string w 9 s .i64 .i64 _ _ Try.underlying9 (by omega) (by omega) (by omega)]; rfl
        have hez : (s.extract a (a + k)).size = k := by rw [size_ext s a (a + k) hk]; omega
        have hcv := fun W => conv_bytes (s.extract a (a + k)) W
        go_wp2_with (go_at_call 41; refine (isPlain_any _ _).mono ?_; rintro e w1 ⟨rfl, hw1⟩; subst w1)
        go_quiet (fail)
        go_wp2_with (go_at_call 40; refine (take_str g s a k v L x (s.extract a (a + k)) _ _ _ (w.drewN nq) rfl hez (h.drewN nq) (by rw [hez]; omega) (by omega)).mono ?_; rintro e w1 ⟨rfl, ⟨v', hR⟩, hb1⟩)
        go_ret
        exact ⟨a + k, by omega, hk, hpl, fun hh => by (first | omega | (have := hk'.out; omega)), (bdN (Below.refl _ _) nq).trans hb1, Or.inr ⟨by omega, rfl, v', hR⟩⟩
end Go.Proofs.Ythiilkmnbjgoaaa
