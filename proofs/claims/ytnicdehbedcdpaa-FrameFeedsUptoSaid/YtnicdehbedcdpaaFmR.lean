/- The document's framer. -/
import Derived.Test.YtnicdehbedcdpaaFmQ
namespace Go.Proofs.Ytnicdehbedcdpaa
open Go.ChangeShapes Go.WideShapes Go.ChangeAt Go.RowKit

/-- The document's framer in block Q: its rest. -/
structure RF (w : World) (Q : Nat) (L : List Nat) (lim er : Int) : Prop where
  c0 : w.cell? ⟨Q, 0, none⟩ = some (.int .i64 lim)
  c1 : w.cell? ⟨Q, 1, none⟩ = some (.string (sOf L))
  c2 : w.cell? ⟨Q, 2, none⟩ = some (.int .i64 er)
  fz : ∀ o, w.frozen? ⟨Q, o, none⟩ = false
  by_ : ∀ b ∈ L, b < 256
  lt : Q < w.heap.size
theorem RF.same {w w' : World} {Q : Nat} {L : List Nat} {lim er : Int} (h : RF w Q L lim er) (h1 : w'.heap[Q]? = w.heap[Q]?) (hs : w.heap.size ≤ w'.heap.size) : RF w' Q L lim er :=
  ⟨(World.cell?_of_block h1).trans h.c0, (World.cell?_of_block h1).trans h.c1, (World.cell?_of_block h1).trans h.c2, fun o => (World.frozen?_of_block h1).trans (h.fz o), h.by_, Nat.lt_of_lt_of_le h.lt hs⟩
theorem RF.below {w w' : World} {Q : Nat} {L : List Nat} {lim er : Int} (h : RF w Q L lim er) (hb : Below w.heap.size w w') : RF w' Q L lim er := h.same (hb.block Q h.lt) hb.size
theorem refNew_any (lim : Int) (w : World) : Calls Try.prog 21 #[.int .i64 lim] w fun e w' => e = .returned (.pointer (some ⟨w.heap.size, 0, none⟩)) ∧ w' = w.alloc (.cells #[.int .i64 lim, .string ⟨#[]⟩, .int .i64 0] 70) := by
  go_enter Try.func21, Try.ntmps21
  go_wp2
  go_ret
  exact ⟨rfl, rfl⟩
theorem RF.new (w : World) (lim : Int) : RF (w.alloc (.cells #[.int .i64 lim, .string ⟨#[]⟩, .int .i64 0] 70)) w.heap.size [] lim 0 := by
  have h := heap_nw w (.cells #[.int .i64 lim, .string ⟨#[]⟩, .int .i64 0] 70)
  exact ⟨(cellA h 0).trans rfl, (cellA h 1).trans rfl, (cellA h 2).trans rfl, frozA h, (fun b hb => by cases hb), by rw [World.size_alloc]; omega⟩
theorem refHeld_any {w : World} {Q : Nat} {L : List Nat} {lim er : Int} (h : RF w Q L lim er) : Calls Try.prog 23 #[.pointer (some ⟨Q, 0, none⟩)] w fun e w' => e = .returned (.int .i64 (L.length : Int)) ∧ Below w.heap.size w w' := by
  have e1 := h.c1
  have hz : (sOf L).size = L.length := sOf_size L
  go_enter Try.func23, Try.ntmps23
  go_wp2_with fail
  go_ret
  exact ⟨by simp, Below.refl _ _⟩
set_option maxHeartbeats 1000000 in
theorem refNeed_any {w : World} {Q : Nat} {L : List Nat} {lim er : Int} (h : RF w Q L lim er) (hL : L.length ≤ 9223372036854770000) : Calls Try.prog 24 #[.pointer (some ⟨Q, 0, none⟩)] w fun e w' => e = .returned (.int .i64 (ndZ L er)) ∧ Below w.heap.size w w' := by
  unfold ndZ
  have e1 := h.c1
  have e2 := h.c2
  have hz := sOf_size L
  by_cases he : er = 0
  · subst he
    rw [if_neg (by simp)]
    by_cases h4 : L.length < 4
    · rw [if_pos h4]
      generalize hN : L.length = N at *
      have h4i : (N : Int) < 4 := by omega
      have s1 : IntKind.i64.wrap (6 - (N : Int)) = 6 - (N : Int) := by rw [IntKind.wrap_i64]; omega
      go_enter Try.func24, Try.ntmps24
      go_wp2_with fail
      go_ret
      exact ⟨rfl, Below.refl _ _⟩
    · rw [if_neg h4]
      have c1 := fun W => refnum_any (sOf L) 0 4 (by omega) (by decide) (by omega) W
      rw [lOf_sOf L h.by_, List.drop_zero] at c1
      change ∀ W, Calls _ _ _ _ (fun e w' => e = .returned (.int .i64 ((lnZ L : Nat) : Int)) ∧ _) at c1
      have hlt := lnZ_lt h.by_
      generalize hN : L.length = N at *
      generalize lnZ L = T at *
      have h4i : ¬ (N : Int) < 4 := by omega
      have s1 : IntKind.i64.wrap ((T : Int) - (N : Int)) = (T : Int) - (N : Int) := by rw [IntKind.wrap_i64]; omega
      go_enter Try.func24, Try.ntmps24
      go_wp2_with fail
      go_region_with (go_at_call 32; refine (c1 _).mono ?_; rintro _ _ ⟨rfl, rfl⟩)
      all_goals
        go_wp2_with fail
        go_ret
        exact ⟨rfl, (Below.refl _ _).drew⟩
  · rw [if_pos he]
    have hb1 : (er == 0) = false := beq_eq_false_iff_ne.2 he
    have hb2 : (er != 0) = true := by rw [bne, hb1]; rfl
    go_enter Try.func24, Try.ntmps24
    go_wp2_with fail
    go_ret
    exact ⟨rfl, Below.refl _ _⟩
theorem sOf_drop (D : List Nat) (n : Nat) (hD : ∀ b ∈ D, b < 256) : (sOf D).extract n D.length = sOf (D.drop n) := by
  apply lOf_inj
  rw [lOf_extract, lOf_sOf D hD, lOf_sOf _ (fun b hb => hD b (List.mem_of_mem_drop hb))]
  rw [List.take_of_length_le (by rw [List.length_drop]; omega)]
theorem refFeed_ref {w : World} {Q : Nat} {L : List Nat} {x : Value} {lim er : Int} (h : RF w Q L lim er) (he : er ≠ 0) : Calls Try.prog 22 #[.pointer (some ⟨Q, 0, none⟩), x] w fun e w' => e = .returned (.tuple #[.slice none 0 0, .int .i64 er]) ∧ Below w.heap.size w w' := by
  have e2 := h.c2
  have hb1 : (er == 0) = false := beq_eq_false_iff_ne.2 he
  have hb2 : (er != 0) = true := by rw [bne, hb1]; rfl
  go_enter Try.func22, Try.ntmps22
  go_wp2_with fail
  go_quiet (fail)
  go_wp2_with fail
  go_ret2
  exact ⟨rfl, below_drewN (Below.refl _ _) _⟩
theorem RF.rest {w : World} {Q : Nat} {L : List Nat} {lim er : Int} (h : RF w Q L lim er) (L2 : List Nat) (h2 : ∀ b ∈ L2, b < 256) : RF (w.setCell ⟨Q, 1, none⟩ (.string (sOf L2))) Q L2 lim er := by
  have c : ∀ o x, o ≠ 1 → w.cell? ⟨Q, o, none⟩ = some x → (w.setCell ⟨Q, 1, none⟩ (.string (sOf L2))).cell? ⟨Q, o, none⟩ = some x := fun o x ho hx => (World.cell?_setCell_other w _ _ _ (fun e' => ho (by injection e' with _ e2; exact e2.symm))).trans hx
  exact ⟨c 0 _ (by decide) h.c0, World.cell?_setCell_same w ⟨Q, 1, none⟩ _ h.c1, c 2 _ (by decide) h.c2, fun o => by rw [World.frozen?_setCell]; exact h.fz o, h2, by simpa [World.setCell] using h.lt⟩
theorem RF.err {w : World} {Q : Nat} {L : List Nat} {lim er : Int} (h : RF w Q L lim er) (e : Int) : RF (w.setCell ⟨Q, 2, none⟩ (.int .i64 e)) Q L lim e := by
  have c : ∀ o x, o ≠ 2 → w.cell? ⟨Q, o, none⟩ = some x → (w.setCell ⟨Q, 2, none⟩ (.int .i64 e)).cell? ⟨Q, o, none⟩ = some x := fun o x ho hx => (World.cell?_setCell_other w _ _ _ (fun e' => ho (by injection e' with _ e2; exact e2.symm))).trans hx
  exact ⟨c 0 _ (by decide) h.c0, c 1 _ (by decide) h.c1, World.cell?_setCell_same w ⟨Q, 2, none⟩ _ h.c2, fun o => by rw [World.frozen?_setCell]; exact h.fz o, h.by_, by simpa [World.setCell] using h.lt⟩
/-- What a Feed of the document's framer leaves. -/
def RFeedP (w : World) (Q : Nat) (lim : Int) (D : List Nat) (e : Ending) (w' : World) : Prop :=
  ∃ pv, e = .returned (.tuple #[pv, .int .i64 (cutZ lim D).2.2]) ∧ POwn w' w.heap.size pv (cutZ lim D).1 ∧ RF w' Q (fdL lim D) lim (cutZ lim D).2.2 ∧ Kx Q none w w'
set_option maxHeartbeats 2000000 in
theorem refFeed_ok {w : World} {Q : Nat} {L M : List Nat} {lim : Int} (h : RF w Q L lim 0) (hM : ∀ b ∈ M, b < 256) (hl : L.length + M.length ≤ 9223372036854770000) (hn : (cutZ lim (L ++ M)).1.length ≤ 4398046511103) :
    Calls Try.prog 22 #[.pointer (some ⟨Q, 0, none⟩), .string (sOf M)] w (RFeedP w Q lim (L ++ M)) := by
  have e0 := h.c0
  have e1 := h.c1
  have e2 := h.c2
  have fz := h.fz
  have hlt := h.lt
  have hD : ∀ b ∈ L ++ M, b < 256 := fun b hb => by
    rcases List.mem_append.1 hb with hb | hb
    · exact h.by_ b hb
    · exact hM b hb
  have hap : sOf L ++ sOf M = sOf (L ++ M) := (sOf_append L M).symm
  have hsz : (sOf L).size + (sOf M).size ≤ 9223372036854775807 := by rw [sOf_size, sOf_size]; omega
  have hsz2 : ¬ 9223372036854775807 < (sOf L).size + (sOf M).size := by omega
  have hc := fun W => refSplit_any lim (sOf (L ++ M)) W (by rw [sOf_size, List.length_append]; omega) (by rw [lOf_sOf _ hD]; exact hn)
  rw [lOf_sOf _ hD] at hc
  have hle := (cutZ_le lim (L ++ M)).1
  have hex : ∀ n, (sOf (L ++ M)).extract n (sOf (L ++ M)).size = sOf ((L ++ M).drop n) := fun n => by rw [sOf_size]; exact sOf_drop _ n hD
  have hzs : (sOf (L ++ M)).size = (L ++ M).length := sOf_size _
  unfold RFeedP fdL
  generalize L ++ M = D at *
  generalize cutZ lim D = C at hn hc hle ⊢
  obtain ⟨LL, hLL0⟩ : ∃ x, x = (if C.2.2 = 0 then D.drop C.2.1 else []) := ⟨_, rfl⟩
  rw [← hLL0]
  have hLL : Go.RowKit.Hid (LL = (if C.2.2 = 0 then D.drop C.2.1 else [])) := hLL0
  clear hLL0
  have hlei : ((C.2.1 : Nat) : Int) ≤ ((sOf D).size : Int) := by rw [hzs]; omega
  have hex := sOf_drop D C.2.1 hD
  have hDd : ∀ b ∈ D.drop C.2.1, b < 256 := fun b hb => hD b (List.mem_of_mem_drop hb)
  by_cases he : C.2.2 = 0
  · have hL0 : LL = D.drop C.2.1 := Eq.trans hLL (if_pos he)
    rw [hL0]
    clear hLL
    go_enter Try.func22, Try.ntmps22
    go_wp2_with (go_at_call 16; refine (hc _).mono ?_; rintro _ w2 ⟨v2, rfl, hO2, hB2⟩; have hR2 := h.below hB2; have e1 := hR2.c1; have e2 := hR2.c2; have fz := hR2.fz; clear h)
    go_ret2
    have hR3 := (hR2.rest (D.drop C.2.1) hDd).err 0
    refine ⟨v2, by rw [he]; rfl, ownSame hO2 fun k hk => ?_, by rw [he]; exact hR3, ⟨hB2.os, hB2.tape, hB2.output, by simpa [World.setCell] using hB2.size, fun k hk h1 _ => (Below.heap_setCell _ _ _ _ h1).trans ((Below.heap_setCell _ _ _ _ h1).trans (hB2.block k hk))⟩⟩
    have := (ownLt hO2 hk).1
    exact (Below.heap_setCell _ _ _ _ (by show k ≠ Q; omega)).trans (Below.heap_setCell _ _ _ _ (by show k ≠ Q; omega))
  · have hL0 : LL = [] := Eq.trans hLL (if_neg he)
    rw [hL0]
    have hb1 : (C.2.2 == 0) = false := beq_eq_false_iff_ne.2 he
    have hb2 : (C.2.2 != 0) = true := by rw [bne, hb1]; rfl
    clear hLL he
    go_enter Try.func22, Try.ntmps22
    go_wp2_with (go_at_call 16; refine (hc _).mono ?_; rintro _ w2 ⟨v2, rfl, hO2, hB2⟩; have hR2 := h.below hB2; have e1 := hR2.c1; have e2 := hR2.c2; have fz := hR2.fz; clear h)
    go_ret2
    have hR3 := ((hR2.rest (D.drop C.2.1) hDd).err C.2.2).rest [] (fun b hb => by cases hb)
    refine ⟨v2, rfl, ownSame hO2 fun k hk => ?_, hR3, ⟨hB2.os, hB2.tape, hB2.output, by simpa [World.setCell] using hB2.size, fun k hk h1 _ => (Below.heap_setCell _ _ _ _ h1).trans ((Below.heap_setCell _ _ _ _ h1).trans ((Below.heap_setCell _ _ _ _ h1).trans (hB2.block k hk)))⟩⟩
    have := (ownLt hO2 hk).1
    exact (Below.heap_setCell _ _ _ _ (by show k ≠ Q; omega)).trans ((Below.heap_setCell _ _ _ _ (by show k ≠ Q; omega)).trans (Below.heap_setCell _ _ _ _ (by show k ≠ Q; omega)))
end Go.Proofs.Ytnicdehbedcdpaa
