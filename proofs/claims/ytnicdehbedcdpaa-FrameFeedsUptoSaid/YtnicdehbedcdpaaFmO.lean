/- Clone, add, drop, pack. -/
import Derived.Test.YtnicdehbedcdpaaFmN
namespace Go.Proofs.Ytnicdehbedcdpaa
open Go.ChangeShapes Go.WideShapes Go.ChangeAt Go.RowKit

theorem Clone_any {w : World} {a : Addr} {n c : Nat} {M : List Nat} (S : Src Try.prog 1 33 (.slice (some a) n c) M.length (M.map cU) (w.alloc (.cells #[] 5))) (hl : M.length ≤ 140737488355328) :
    Calls Try.prog 38 #[.slice (some a) n c] w fun e w' => ∃ v, e = .returned v ∧ Buf w' w.heap.size v M ∧ Below w.heap.size w w' := by
  have own : Buf (w.alloc (.cells #[] 5)) w.heap.size (.slice (some ⟨w.heap.size, 0, none⟩) 0 0) [] :=
    ⟨rfl, .inr ⟨w.heap.size, 0, #[], rfl, Nat.le_refl _, heap_nw w _, Nat.le_refl _, by decide, rfl, rfl⟩⟩
  have hap := tbufAppend own S (by simpa using hl) (by rw [World.size_alloc]; omega)
  have hb0 := bel1 w (.cells #[] 5)
  rw [List.nil_append] at hap
  have heq : ∀ w, (binOp .eql 33 (.slice (some a) n c) (.slice none 0 0)).run Try.prog w = .ok (.bool false) w := fun w => by
    unfold binOp
    simp [run_equal_slice_nil w 33 5 (some a) n c Try.underlying33]
  go_enter Try.func38, Try.ntmps38
  go_wp2_with (at_builtin; go_must (refine (wpList_append_ex (by rfl) _ _ _ _ (by rfl) _ _ (by rfl) (by rfl) _ hap ?_)); rintro v' w' ⟨q1, q2, _, _⟩)
  go_ret
  exact ⟨_, rfl, q1, hb0.trans q2⟩
/-- Other bytes, behind a call that left the framer's block. -/
theorem Fr.renew {w w' : World} {B R : Nat} {v v2 : Value} {L L2 : List Nat} {fr : Nat} {lim er : Int} (h : Fr w B R v L fr lim er) (h1 : w'.heap[R]? = w.heap[R]?) (hs : w.heap.size ≤ w'.heap.size) (hb : Buf w' B v2 L2) (hn : v2.ownBlock ≠ some R) (hL : fr ≤ L2.length) (hy : ∀ b ∈ L2, b < 256) (hl : L2.length ≤ 281474976710656) :
    Fr (w'.setCell ⟨R, 0, none⟩ v2) B R v2 L2 fr lim er ∧ Buf (w'.setCell ⟨R, 0, none⟩ v2) B v2 L2 := by
  have hb2 : Buf (w'.setCell ⟨R, 0, none⟩ v2) B v2 L2 := ownSame hb fun k hk => Below.heap_setCell _ _ _ _ (fun e => hn (by rw [hk, e]))
  have c : ∀ o x, o ≠ 0 → w.cell? ⟨R, o, none⟩ = some x → (w'.setCell ⟨R, 0, none⟩ v2).cell? ⟨R, o, none⟩ = some x := fun o x ho hx => (World.cell?_setCell_other w' _ _ _ (fun e' => ho (by injection e' with _ e2; exact e2.symm))).trans ((World.cell?_of_block h1).trans hx)
  exact ⟨⟨World.cell?_setCell_same w' ⟨R, 0, none⟩ _ ((World.cell?_of_block h1).trans h.c0), c 1 _ (by decide) h.c1, c 2 _ (by decide) h.c2, c 3 _ (by decide) h.c3, fun o => by rw [World.frozen?_setCell, World.frozen?_of_block h1]; exact h.fz o, Rwb.of hb2, hL, hn, hy, hl, h.lo, by simpa [World.setCell] using Nat.lt_of_lt_of_le h.lt hs⟩, hb2⟩
theorem add_any {w : World} {B R : Nat} {v : Value} {L M : List Nat} {fr cx : Nat} {px : Option Addr} {lim er : Int} (h : Fr w B R v L fr lim er) (hb : Buf w B v L) (S : Src Try.prog 1 33 (.slice px M.length cx) M.length (M.map cU) w) (hl : L.length + M.length ≤ 140737488355328) (hM : ∀ b ∈ M, b < 256) :
    Calls Try.prog 29 #[.pointer (some ⟨R, 0, none⟩), .slice px M.length cx] w fun e w' => e = .returned (.tuple #[]) ∧ ∃ v', Fr w' B R v' (L ++ M) fr lim er ∧ Buf w' B v' (L ++ M) ∧ Kx R v.ownBlock w w' ∧ ∀ k, v'.ownBlock = some k → v.ownBlock = some k ∨ w.heap.size ≤ k := by
  have hB := Nat.le_of_lt (Nat.lt_of_le_of_lt h.lo h.lt)
  have hap := tbufAppend hb S hl hB
  have hRv := h.ne
  have hlt := h.lt
  have e0 := h.c0
  have ef := h.fz 0
  obtain ⟨pv, cv, rfl⟩ := own_sl hb
  go_enter Try.func29, Try.ntmps29
  go_wp2_with (at_builtin; go_must (refine (wpList_append_ex (by rfl) _ _ _ _ (by rfl) _ _ (by rfl) (by rfl) _ hap ?_)); rintro v' w' ⟨q1, q2, q3, q4⟩; obtain ⟨pw, cw, rfl⟩ := own_sl q1; have z0 := (World.cell?_of_block (q3 R hlt hRv)).trans e0; have zf := (World.frozen?_of_block (q3 R hlt hRv)).trans ef)
  go_end0
  have hn2 : (Value.slice pw (L.length + M.length) cw).ownBlock ≠ some R := fun e => by
    rcases q4 R (by rw [List.length_append]; exact e) with h1 | h1
    · exact hRv h1
    · omega
  rw [List.length_append] at q1 q4
  obtain ⟨f1, f2⟩ := h.renew (q3 R hlt hRv) q2.size q1 hn2 (by rw [List.length_append]; have := h.le; omega) (fun b hb => by
    rcases List.mem_append.1 hb with hb | hb
    · exact h.by_ b hb
    · exact hM b hb) (by rw [List.length_append]; omega)
  exact ⟨rfl, _, f1, f2, ⟨q2.os, q2.tape, q2.output, by simpa [World.setCell] using q2.size, fun k hk hkR hkv => (Below.heap_setCell _ _ _ _ hkR).trans (q3 k hk hkv)⟩, q4⟩
/-- Bytes and front, both new. -/
theorem Fr.both {w : World} {B R : Nat} {v v2 : Value} {L L2 : List Nat} {fr : Nat} {lim er : Int} (h : Fr w B R v L fr lim er) (hb : Rwb w B v2 L2) (hn : v2.ownBlock ≠ some R) (hy : ∀ b ∈ L2, b < 256) (hl : L2.length ≤ 281474976710656) :
    Fr ((w.setCell ⟨R, 0, none⟩ v2).setCell ⟨R, 1, none⟩ (.int .i64 0)) B R v2 L2 0 lim er ∧ Kx R none w ((w.setCell ⟨R, 0, none⟩ v2).setCell ⟨R, 1, none⟩ (.int .i64 0)) := by
  have hk : ∀ k, k ≠ R → ((w.setCell ⟨R, 0, none⟩ v2).setCell ⟨R, 1, none⟩ (.int .i64 0)).heap[k]? = w.heap[k]? := fun k hk => (Below.heap_setCell _ _ _ _ hk).trans (Below.heap_setCell _ _ _ _ hk)
  have c : ∀ o x, o ≠ 0 → o ≠ 1 → w.cell? ⟨R, o, none⟩ = some x → ((w.setCell ⟨R, 0, none⟩ v2).setCell ⟨R, 1, none⟩ (.int .i64 0)).cell? ⟨R, o, none⟩ = some x := fun o x h0 h1 hx =>
    (World.cell?_setCell_other _ _ _ _ (fun e' => h1 (by injection e' with _ e2; exact e2.symm))).trans ((World.cell?_setCell_other w _ _ _ (fun e' => h0 (by injection e' with _ e2; exact e2.symm))).trans hx)
  refine ⟨⟨?_, ?_, c 2 _ (by decide) (by decide) h.c2, c 3 _ (by decide) (by decide) h.c3, fun o => by rw [World.frozen?_setCell, World.frozen?_setCell]; exact h.fz o, hb.same fun k hk' => hk k (fun e => hn (by rw [hk', e])), Nat.zero_le _, hn, hy, hl, h.lo, by simpa [World.setCell] using h.lt⟩, ⟨rfl, rfl, rfl, by simp [World.setCell], fun k _ h1 _ => hk k h1⟩⟩
  · exact (World.cell?_setCell_other _ ⟨R, 1, none⟩ ⟨R, 0, none⟩ _ (by simp)).trans (World.cell?_setCell_same w ⟨R, 0, none⟩ _ h.c0)
  · exact World.cell?_setCell_same _ ⟨R, 1, none⟩ _ ((World.cell?_setCell_other w ⟨R, 0, none⟩ ⟨R, 1, none⟩ _ (by simp)).trans h.c1)
/-- drop. -/
theorem drop_any {w : World} {B R : Nat} {v : Value} {L : List Nat} {fr : Nat} {lim er : Int} (h : Fr w B R v L fr lim er) :
    Calls Try.prog 28 #[.pointer (some ⟨R, 0, none⟩)] w fun e w' => e = .returned (.tuple #[]) ∧ Fr w' B R (.slice none 0 0) [] 0 lim er ∧ Kx R none w w' := by
  have e0 := h.c0
  have e1 := h.c1
  have f0 := h.fz
  have hE := h.both (v2 := .slice none 0 0) (L2 := []) (.inl ⟨rfl, rfl⟩) (by simp [Value.ownBlock]) (fun b hb => by cases hb) (by simp)
  go_enter Try.func28, Try.ntmps28
  go_wp2_with fail
  go_end0
  exact ⟨rfl, hE⟩
set_option maxHeartbeats 2000000 in
theorem pack_any {w : World} {B R : Nat} {v : Value} {L : List Nat} {fr : Nat} {lim er : Int} (h : Fr w B R v L fr lim er) (hb : Buf w B v L) (hl : L.length ≤ 140737488355328) :
    Calls Try.prog 31 #[.pointer (some ⟨R, 0, none⟩)] w fun e w' => e = .returned (.tuple #[]) ∧ ∃ v', Fr w' B R v' (L.drop fr) 0 lim er ∧ Buf w' B v' (L.drop fr) ∧ Kx R none w w' ∧ ∀ k, v'.ownBlock = some k → v.ownBlock = some k ∨ w.heap.size ≤ k := by
  have e0 := h.c0
  have e1 := h.c1
  have f0 := h.fz
  by_cases hz : fr = 0
  · subst hz
    go_enter Try.func31, Try.ntmps31
    go_wp2_with fail
    go_end0
    exact ⟨rfl, v, by rw [List.drop_zero]; exact h, by rw [List.drop_zero]; exact hb, Kx.refl _ _ _, fun k hk => .inl hk⟩
  · have hz2 : (0 : Int) < (fr : Int) := by omega
    have hle := h.le
    obtain ⟨p, cap, rfl, hcap, hc⟩ := h.sl
    obtain ⟨g, rfl, _⟩ := hc 0 (L[0]) (List.getElem?_eq_getElem (by omega))
    obtain ⟨o, hif, ho⟩ : ∃ o, (if cap = fr then some (⟨g, 0, none⟩ : Addr) else some ⟨g, fr, none⟩) = some ⟨g, o, none⟩ ∧ (fr < L.length → o = fr) := by
      by_cases hcf : cap = fr
      · exact ⟨0, by rw [if_pos hcf], fun h => by omega⟩
      · exact ⟨fr, by rw [if_neg hcf], fun _ => rfl⟩
    have hg : g < w.heap.size := (ownLt hb (k := g) rfl).2
    have hS : ∀ n', n' = L.length - fr → ∀ c, Src Try.prog 1 33 (.slice (some ⟨g, o, none⟩) n' c) (L.drop fr).length ((L.drop fr).map cU) (w.drew.alloc (.cells #[] 5)) := fun n' hn' c => by
      have hn2 : (L.drop fr).length = n' := by rw [List.length_drop, hn']
      rw [hn2]
      refine Src.ofSlice _ Try.underlying33 ⟨g, o, none⟩ n' c _ (by rw [List.length_map, hn2, Nat.mul_one]) (fun j u hu => ?_) (cU_one _)
      rw [List.getElem?_map] at hu
      obtain ⟨x, hx, rfl⟩ := Option.map_eq_some_iff.1 hu
      rw [List.getElem?_drop] at hx
      have hlt : fr + j < L.length := (List.getElem?_eq_some_iff.1 hx).1
      obtain ⟨g2, e, hh⟩ := hc (fr + j) x hx
      cases e
      rw [ho (by omega), addrP]
      exact ((bel1 w.drew (.cells #[] 5)).cell (p := ⟨g, fr + j, none⟩) hg).trans hh
    have hR := h.lt
    have hRg := h.ne
    go_enter Try.func31, Try.ntmps31
    go_wp2_with fail
    go_region_with (go_at_call 38; refine (Clone_any (hS _ rfl _) (by rw [List.length_drop]; omega)).mono ?_; rintro _ w1 ⟨v1, rfl, hb1, hB1⟩; have z0 := (hB1.cell (p := ⟨R, 0, none⟩) hR).trans e0; have z1 := (hB1.cell (p := ⟨R, 1, none⟩) hR).trans e1; have zf := fun o => (hB1.frozen (p := ⟨R, o, none⟩) hR).trans (f0 o); obtain ⟨pv, cv, rfl⟩ := own_sl hb1)
    all_goals
      go_wp2_with fail
      go_end0
      have hBw : Below w.heap.size w w1 := (Below.refl _ w).drew.trans hB1
      have hzw : w.heap.size ≤ w1.heap.size := hBw.size
      have hlo := h.lo
      have h1 := h.below hBw
      rw [List.length_drop] at hb1
      have hbw : Buf w1 w.heap.size (.slice pv (L.length - fr) cv) (L.drop fr) := hb1
      have hb2 : Buf w1 B (.slice pv (L.length - fr) cv) (L.drop fr) := hbw.mono (by omega)
      have hne : (Value.slice pv (L.length - fr) cv).ownBlock ≠ some R := fun e => by have := (ownLt hbw e).1; omega
      obtain ⟨q1, q2⟩ := h1.both (Rwb.of hb2) hne (fun b hb => h.by_ b (List.mem_of_mem_drop hb)) (by rw [List.length_drop]; omega)
      exact ⟨rfl, _, q1, ownSame hb2 fun k hk => q2.block k (ownLt hb2 hk).2 (fun e => hne (e ▸ hk)) (by simp), (Kx.of hBw).trans q2, fun k hk => .inr (ownLt hbw hk).1⟩
end Go.Proofs.Ytnicdehbedcdpaa
