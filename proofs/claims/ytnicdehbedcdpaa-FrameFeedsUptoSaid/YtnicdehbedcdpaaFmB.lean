/- A framer in memory; count, number, length, kind. -/
import Derived.Test.YtnicdehbedcdpaaFmA
namespace Go.Proofs.Ytnicdehbedcdpaa
open Go.ChangeShapes Go.WideShapes Go.ChangeAt Go.RowKit

theorem i64_or_nat (a b : Nat) (ha : a < 9223372036854775808) (hb : b < 9223372036854775808) : bits .or .i64 (a : Int) (b : Int) = ((a ||| b : Nat) : Int) := by
  have hx : a ||| b < 2 ^ 63 := Nat.or_lt_two_pow (by omega) (by omega)
  show IntKind.i64.wrap ((BitVec.ofInt 64 (a : Int) ||| BitVec.ofInt 64 (b : Int)).toNat : Int) = _
  rw [BitVec.toNat_or, BitVec.toNat_ofInt, BitVec.toNat_ofInt, IntKind.wrap_i64]
  have e1 : ((a : Int) % ((2 ^ 64 : Nat) : Int)).toNat = a := by omega
  have e2 : ((b : Int) % ((2 ^ 64 : Nat) : Int)).toNat = b := by omega
  rw [e1, e2]
  omega
/-- One step of the number. -/
theorem or_byte (n x : Nat) (hn : n < 36028797018963968) (hx : x < 256) : bits .or .i64 ((n : Int) * 256) (x : Int) = ((n * 256 + x : Nat) : Int) := by
  rw [show ((n : Int) * 256) = ((n * 256 : Nat) : Int) by simp, i64_or_nat _ _ (by omega) (by omega)]
  congr 1
  rw [Nat.mul_comm n 256]
  exact (Nat.two_pow_add_eq_or_of_lt (i := 8) (b := x) (by omega) n).symm
/-- Bytes that can be read, in a block from B on. -/
def Rwb (w : World) (B : Nat) (v : Value) (L : List Nat) : Prop :=
  (v = .slice none 0 0 ∧ L = []) ∨ ∃ g cap, v = .slice (some ⟨g, 0, none⟩) L.length cap ∧ B ≤ g ∧ g < w.heap.size ∧ L.length ≤ cap ∧ ∀ (j x : Nat), L[j]? = some x → w.cell? ⟨g, j, none⟩ = some (.int .u8 (x : Int))
theorem Rwb.lt {w : World} {B : Nat} {v : Value} {L : List Nat} (h : Rwb w B v L) {k : Nat} (hk : v.ownBlock = some k) : B ≤ k ∧ k < w.heap.size := by
  rcases h with ⟨rfl, _⟩ | ⟨g, cap, rfl, h1, h2, _⟩
  · cases hk
  · cases hk; exact ⟨h1, h2⟩
theorem Rwb.same {w w' : World} {B : Nat} {v : Value} {L : List Nat} (h : Rwb w B v L) (hb : ∀ k, v.ownBlock = some k → w'.heap[k]? = w.heap[k]?) : Rwb w' B v L := by
  rcases h with h | ⟨g, cap, rfl, h1, h2, h3, h4⟩
  · exact .inl h
  · have e := hb g rfl
    refine .inr ⟨g, cap, rfl, h1, ?_, h3, fun j x hj => (World.cell?_of_block e).trans (h4 j x hj)⟩
    rcases Nat.lt_or_ge g w'.heap.size with h5 | h5
    · exact h5
    · rw [Array.getElem?_eq_none h5, Array.getElem?_eq_getElem h2] at e
      cases e
theorem Rwb.below {w w' : World} {B : Nat} {v : Value} {L : List Nat} (h : Rwb w B v L) (hb : Below w.heap.size w w') : Rwb w' B v L := h.same fun k hk => hb.block k (h.lt hk).2
theorem Rwb.of {w : World} {B : Nat} {v : Value} {L : List Nat} (h : Buf w B v L) : Rwb w B v L := by
  have hl := fun k hk => ownLt h (k := k) hk
  rcases h.2 with ⟨e, e2⟩ | ⟨g, cap, cur, rfl, hb, hg, hn, hm, hs, hx⟩
  · exact .inl ⟨e, List.eq_nil_of_length_eq_zero e2⟩
  · refine .inr ⟨g, cap, rfl, hb, (hl g rfl).2, hn, fun j x hj => ?_⟩
    have e3 : (L.map cU)[j]? = some (cU x) := by rw [List.getElem?_map, hj]; rfl
    have := World.ownsRow.cells h (g := g) rfl j _ e3
    rw [addrP, Nat.zero_add] at this
    exact this
/-- A framer in block R: its bytes in a row. -/
structure Fr (w : World) (B R : Nat) (v : Value) (L : List Nat) (fr : Nat) (lim er : Int) : Prop where
  c0 : w.cell? ⟨R, 0, none⟩ = some v
  c1 : w.cell? ⟨R, 1, none⟩ = some (.int .i64 (fr : Int))
  c2 : w.cell? ⟨R, 2, none⟩ = some (.int .i64 lim)
  c3 : w.cell? ⟨R, 3, none⟩ = some (.int .i64 er)
  fz : ∀ o, w.frozen? ⟨R, o, none⟩ = false
  buf : Rwb w B v L
  le : fr ≤ L.length
  ne : v.ownBlock ≠ some R
  by_ : ∀ b ∈ L, b < 256
  len : L.length ≤ 281474976710656
  lo : B ≤ R
  lt : R < w.heap.size
theorem Fr.below {w w' : World} {B R : Nat} {v : Value} {L : List Nat} {fr : Nat} {lim er : Int} (h : Fr w B R v L fr lim er) (hb : Below w.heap.size w w') : Fr w' B R v L fr lim er :=
  ⟨(hb.cell (p := ⟨R, 0, none⟩) h.lt).trans h.c0, (hb.cell (p := ⟨R, 1, none⟩) h.lt).trans h.c1, (hb.cell (p := ⟨R, 2, none⟩) h.lt).trans h.c2, (hb.cell (p := ⟨R, 3, none⟩) h.lt).trans h.c3, fun o => (hb.frozen (p := ⟨R, o, none⟩) h.lt).trans (h.fz o), h.buf.below hb, h.le, h.ne, h.by_, h.len, h.lo, Nat.lt_of_lt_of_le h.lt hb.size⟩
/-- A row's slice: its cells. -/
theorem Fr.sl {w : World} {B R : Nat} {v : Value} {L : List Nat} {fr : Nat} {lim er : Int} (h : Fr w B R v L fr lim er) : ∃ p cap, v = .slice p L.length cap ∧ L.length ≤ cap ∧ ∀ (j x : Nat), L[j]? = some x → ∃ g, p = some ⟨g, 0, none⟩ ∧ w.cell? ⟨g, j, none⟩ = some (.int .u8 (x : Int)) := by
  rcases h.buf with ⟨rfl, rfl⟩ | ⟨g, cap, rfl, hb, hg, hn, hx⟩
  · exact ⟨none, 0, rfl, by simp, fun j x hj => by cases hj⟩
  · exact ⟨_, cap, rfl, hn, fun j x hj => ⟨g, rfl, hx j x hj⟩⟩
theorem count_any {w : World} {B R : Nat} {v : Value} {L : List Nat} {fr : Nat} {lim er : Int} (h : Fr w B R v L fr lim er) :
    Calls Try.prog 25 #[.pointer (some ⟨R, 0, none⟩)] w fun e w' => e = .returned (.int .i64 ((L.length - fr : Nat) : Int)) ∧ Below w.heap.size w w' := by
  have e0 := h.c0
  have e1 := h.c1
  have hle := h.le
  have hlen := h.len
  obtain ⟨p, cap, rfl, _⟩ := h.sl
  have hs : ((L.length - fr : Nat) : Int) = (L.length : Int) - (fr : Int) := by omega
  rw [hs]
  clear h
  go_enter Try.func25, Try.ntmps25
  go_wp2_with fail
  go_quiet (fail)
  go_wp2_with fail
  go_ret
  exact ⟨rfl, below_drewN (Below.refl _ _) _⟩
theorem nmF_take (l : List Nat) (k x : Nat) (hx : l[k]? = some x) : nm (l.take (k + 1)) = nm (l.take k) * 256 + x := by
  have hk : k < l.length := (List.getElem?_eq_some_iff.1 hx).1
  have e : l[k] = x := (List.getElem?_eq_some_iff.1 hx).2
  unfold nm
  rw [List.take_succ_eq_append_getElem hk, nmF_append, e]
  rfl
set_option maxHeartbeats 2000000 in
theorem number_any {w : World} {B R : Nat} {v : Value} {L : List Nat} {fr : Nat} {lim er : Int} (h : Fr w B R v L fr lim er) (a b : Nat) (hab : a < b) (hb6 : b ≤ 6) (h4 : b - a ≤ 4) (hb : fr + b ≤ L.length) :
    Calls Try.prog 35 #[.pointer (some ⟨R, 0, none⟩), .int .i64 (a : Int), .int .i64 (b : Int)] w fun e w' => e = .returned (.int .i64 ((nm (((L.drop fr).drop a).take (b - a)) : Nat) : Int)) ∧ Below w.heap.size w w' := by
  have e0 := h.c0
  have e1 := h.c1
  have hle := h.le
  have hlen := h.len
  have hby := h.by_
  obtain ⟨p, cap, rfl, hcap, hc⟩ := h.sl
  obtain ⟨g, rfl, _⟩ := hc fr (L[fr]) (List.getElem?_eq_getElem (by omega))
  have hcell : ∀ k x, k < b - a → ((L.drop fr).drop a)[k]? = some x → w.cell? ⟨g, fr + a + k, none⟩ = some (.int .u8 (x : Int)) := fun k x hk hx => by
    rw [List.getElem?_drop, List.getElem?_drop] at hx
    obtain ⟨g2, e, hh⟩ := hc (fr + a + k) x (by rw [← hx]; congr 1; omega)
    cases e
    exact hh
  have hlen2 : ((L.drop fr).drop a).length = L.length - fr - a := by rw [List.length_drop, List.length_drop]
  have hbd : ∀ k, nm (((L.drop fr).drop a).take k) < 256 ^ k := fun k => nm_lt (fun x hx => hby x (List.mem_of_mem_drop (List.mem_of_mem_drop (List.mem_of_mem_take hx)))) (by rw [List.length_take]; omega)
  generalize hD : (L.drop fr).drop a = D at hcell hlen2 hbd ⊢
  have hby2 : ∀ x ∈ D, x < 256 := fun x hx => by rw [← hD] at hx; exact hby x (List.mem_of_mem_drop (List.mem_of_mem_drop hx))
  clear hD hc hby h
  generalize hm : b - a = m at hcell h4 ⊢
  have hB0 := Below.refl w.heap.size w
  have s1 : IntKind.i64.wrap ((fr : Int) + (a : Int)) = ((fr + a : Nat) : Int) := by rw [IntKind.wrap_i64]; omega
  have s2 : IntKind.i64.wrap ((fr : Int) + (b : Int)) = ((fr + b : Nat) : Int) := by rw [IntKind.wrap_i64]; omega
  go_enter Try.func35, Try.ntmps35
  go_wp2_with fail
  go_quiet (fail)
  go_wp2_with fail
  have e4 : fr + b - (fr + a) = m := by omega
  rw [e4]
  go_loopw [7, 28] (fun n i wr => ∃ k : Nat, k ≤ m ∧ i = .int .i64 (k : Int) ∧ n = .int .i64 ((nm (D.take k) : Nat) : Int) ∧ wr = w.drewN nq) (fun _ i _ => m - (intOf i).toNat)
  case atStart => exact ⟨0, Nat.zero_le _, rfl, rfl, rfl⟩
  case round =>
    obtain ⟨k, hk, rfl, rfl, rfl⟩ := hrel
    by_cases hlt : k < m
    · have hx : D[k]? = some D[k] := List.getElem?_eq_getElem (by omega)
      have hc := hcell k _ hlt hx
      have hst := nmF_take D k _ hx
      have hbk := hbd k
      have hxl := hby2 _ (List.getElem_mem (show k < D.length by omega))
      have hp : 256 ^ k ≤ 256 ^ 3 := Nat.pow_le_pow_right (by decide) (by omega)
      have hor := or_byte (nm (D.take k)) D[k] (by omega) hxl
      have hlti : (k : Int) < (m : Int) := by omega
      generalize nm (D.take k) = N at *
      generalize D[k] = x at *
      have hw1 : IntKind.i64.wrap ((N : Int) * 256) = (N : Int) * 256 := by rw [IntKind.wrap_i64]; omega
      clear hcell hbd hby2 hB0
      go_wp2_with fail
      go_roundw
      case rel => exact ⟨k + 1, by omega, by go_num, by rw [hst]; simp, trivial⟩
      case measure => simp [intOf]; omega
    · obtain rfl : k = m := by omega
      have hlti : ¬ (k : Int) < (k : Int) := by omega
      go_wp2_with fail
      go_ret
      exact ⟨rfl, below_drewN hB0 _⟩
theorem length_any {w : World} {B R : Nat} {v : Value} {L : List Nat} {fr : Nat} {lim er : Int} (h : Fr w B R v L fr lim er) (h4 : 4 ≤ (L.drop fr).length) :
    Calls Try.prog 26 #[.pointer (some ⟨R, 0, none⟩)] w fun e w' => e = .returned (.int .i64 ((lnZ (L.drop fr) : Nat) : Int)) ∧ Below w.heap.size w w' := by
  have hc := number_any h 0 4 (by decide) (by decide) (by decide) (by rw [List.length_drop] at h4; have := h.le; omega)
  rw [List.drop_zero] at hc
  change Calls _ _ _ _ (fun e w' => e = .returned (.int .i64 ((lnZ (L.drop fr) : Nat) : Int)) ∧ Below w.heap.size w w') at hc
  generalize lnZ (L.drop fr) = N at hc ⊢
  go_enter Try.func26, Try.ntmps26
  go_wp2_with (go_at_call 35; refine hc.mono ?_; rintro _ w1 ⟨rfl, hb⟩)
  go_ret
  exact ⟨rfl, hb⟩
theorem kind_any {w : World} {B R : Nat} {v : Value} {L : List Nat} {fr : Nat} {lim er : Int} (h : Fr w B R v L fr lim er) (h6 : 6 ≤ (L.drop fr).length) :
    Calls Try.prog 41 #[.pointer (some ⟨R, 0, none⟩)] w fun e w' => e = .returned (.int .i64 ((kdZ (L.drop fr) : Nat) : Int)) ∧ Below w.heap.size w w' := by
  have hc := number_any h 4 6 (by decide) (by decide) (by decide) (by rw [List.length_drop] at h6; have := h.le; omega)
  change Calls _ _ _ _ (fun e w' => e = .returned (.int .i64 ((kdZ (L.drop fr) : Nat) : Int)) ∧ Below w.heap.size w w') at hc
  generalize kdZ (L.drop fr) = N at hc ⊢
  go_enter Try.func41, Try.ntmps41
  go_wp2_with (go_at_call 35; refine hc.mono ?_; rintro _ w1 ⟨rfl, hb⟩)
  go_ret
  exact ⟨rfl, hb⟩
theorem known_any (t : Int) (w : World) : Calls Try.prog 39 #[.int .i64 t] w fun e w' => e = .returned (.bool (knB t)) ∧ w' = w := by
  unfold knB
  by_cases h : t = 23520
  · subst h
    go_enter Try.func39, Try.ntmps39
    go_wp2
    go_ret
    exact ⟨rfl, rfl⟩
  · have h1 : (t == 23520) = false := beq_eq_false_iff_ne.2 h
    go_enter Try.func39, Try.ntmps39
    go_wp2
    go_ret
    exact ⟨ret_bool (by simp [h, Bool.beq_eq_decide_eq]), rfl⟩
theorem refknown_any (t : Int) (w : World) : Calls Try.prog 33 #[.int .i64 t] w fun e w' => e = .returned (.bool (knB t)) ∧ w' = w := by
  unfold knB
  by_cases h : t = 23520
  · subst h
    go_enter Try.func33, Try.ntmps33
    go_wp2
    go_ret
    exact ⟨rfl, rfl⟩
  · have h1 : (t == 23520) = false := beq_eq_false_iff_ne.2 h
    go_enter Try.func33, Try.ntmps33
    go_wp2
    go_ret
    exact ⟨ret_bool (by simp [h, Bool.beq_eq_decide_eq]), rfl⟩
end Go.Proofs.Ytnicdehbedcdpaa
