/- parcel. -/
import Derived.Test.YtnicdehbedcdpaaFmD
namespace Go.Proofs.Ytnicdehbedcdpaa
open Go.ChangeShapes Go.WideShapes Go.ChangeAt Go.RowKit

theorem conv_at (w : World) (g o n c : Nat) (M : List Nat) (hM : M.length = n) (hc : ∀ (k x : Nat), M[k]? = some x → w.cell? ⟨g, o + k, none⟩ = some (.int .u8 (x : Int))) :
    (convert 33 9 (.slice (some ⟨g, o, none⟩) n c)).run Try.prog w = .ok (.string (sOf M)) w := by
  subst hM
  have := run_convert_bytes_arg w 33 5 Try.underlying33 Try.underlying5 g o M.length c (M.map Int.ofNat) (by simp) (fun i hi => by
    have := hc i M[i] (List.getElem?_eq_getElem hi)
    rw [this]
    simp [List.getD, hi]) 9 Try.underlying9
  have e : strOfNums (M.map Int.ofNat) = sOf M := by
    unfold strOfNums sOf
    simp [Function.comp_def]
  rw [this, e]
/-- Behind take: the result's block is as it was. -/
theorem aftF {w w1 w2 : World} {B R : Nat} {v : Value} {L : List Nat} {fr n : Nat} {lim er : Int} {kk : Nat} (hF : Fr w1 B R v L fr lim er) (hB : Below (w.alloc (.cells #[.int .i64 0, .string ⟨#[]⟩] 36)).heap.size (w.alloc (.cells #[.int .i64 0, .string ⟨#[]⟩] 36)) w1) (hR : R < w.heap.size) (hn : fr + n ≤ L.length)
    (e : w2 = (w1.setCell ⟨R, 1, none⟩ (.int .i64 ((fr + n : Nat) : Int))).drewN kk) : Fr w2 B R v L (fr + n) lim er ∧ Kx R none w w2 ∧ w2.cell? ⟨w.heap.size, 0, none⟩ = some (.int .i64 0) ∧ w2.cell? ⟨w.heap.size, 1, none⟩ = some (.string ⟨#[]⟩) ∧ (∀ o, w2.frozen? ⟨w.heap.size, o, none⟩ = false) ∧ w.heap.size < w2.heap.size := by
  have h2 : w2.heap[w.heap.size]? = w1.heap[w.heap.size]? := by rw [e]; exact Below.heap_setCell _ _ _ _ (by show w.heap.size ≠ R; omega)
  have h1 : w1.heap[w.heap.size]? = some (.cells #[.int .i64 0, .string ⟨#[]⟩] 36 (0, 0)) := (hB.block w.heap.size (by rw [World.size_alloc]; omega)).trans (heap_nw w _)
  have h3 := h2.trans h1
  have hz : w1.heap.size = w2.heap.size := by rw [e]; simp [World.setCell, World.drewN]
  have hz1 := hB.size
  rw [World.size_alloc] at hz1
  refine ⟨by rw [e]; exact (hF.front (fr + n) hn).drewN kk, ?_, by simp [World.cell?, h3], by simp [World.cell?, h3], fun o => by simp [World.frozen?, h3], by omega⟩
  have b := bel1 w (.cells #[.int .i64 0, .string ⟨#[]⟩] 36)
  rw [e]
  exact ((Kx.of b).trans (Kx.of hB)).trans ((Kx.set R 1 none w1 _).trans (Kx.of (below_drewN (Below.refl _ _) kk)))
/-- The result stored in its block. -/
theorem endF {w w2 : World} {B R : Nat} {v : Value} {L : List Nat} {fr : Nat} {lim er : Int} (hG : Fr w2 B R v L fr lim er) (hK : Kx R none w w2) (hW : w.heap.size < w2.heap.size) (hR : R < w.heap.size) (hv : ∀ k, v.ownBlock = some k → k < w.heap.size) (a b : Value) :
    Fr ((w2.setCell ⟨w.heap.size, 0, none⟩ a).setCell ⟨w.heap.size, 1, none⟩ b) B R v L fr lim er ∧ Kx R none w ((w2.setCell ⟨w.heap.size, 0, none⟩ a).setCell ⟨w.heap.size, 1, none⟩ b) := by
  have hs : ((w2.setCell ⟨w.heap.size, 0, none⟩ a).setCell ⟨w.heap.size, 1, none⟩ b).heap.size = w2.heap.size := by simp [World.setCell]
  have hb : ∀ k, k ≠ w.heap.size → ((w2.setCell ⟨w.heap.size, 0, none⟩ a).setCell ⟨w.heap.size, 1, none⟩ b).heap[k]? = w2.heap[k]? := fun k hk => (Below.heap_setCell _ _ _ _ hk).trans (Below.heap_setCell _ _ _ _ hk)
  refine ⟨⟨?_, ?_, ?_, ?_, fun o => ?_, hG.buf.same fun k hk => hb k (by have := hv k hk; omega), hG.le, hG.ne, hG.by_, hG.len, hG.lo, by omega⟩, ⟨hK.os, hK.tape, hK.output, by have := hK.size; omega, fun k hk h1 h2 => (hb k (by omega)).trans (hK.block k hk h1 h2)⟩⟩
  · rw [World.cell?_of_block (hb R (by omega))]; exact hG.c0
  · rw [World.cell?_of_block (hb R (by omega))]; exact hG.c1
  · rw [World.cell?_of_block (hb R (by omega))]; exact hG.c2
  · rw [World.cell?_of_block (hb R (by omega))]; exact hG.c3
  · rw [World.frozen?_of_block (hb R (by omega))]; exact hG.fz o
set_option maxHeartbeats 2000000 in
theorem parcel_any {w : World} {B R : Nat} {v : Value} {L : List Nat} {fr : Nat} {lim er : Int} (hF : Fr w B R v L fr lim er) (hk : lkZ lim (L.drop fr) = 1) :
    Calls Try.prog 37 #[.pointer (some ⟨R, 0, none⟩)] w fun e w' => e = .returned (.agg #[.int .i64 (pcZ (L.drop fr)).t, .string (pcZ (L.drop fr)).b]) ∧ Fr w' B R v L (fr + lnZ (L.drop fr)) lim er ∧ Kx R none w w' := by
  obtain ⟨k6, _, kl, k66, _⟩ := lkZ_1 hk
  obtain ⟨N, hN⟩ : ∃ N, (L.drop fr).length = N := ⟨_, rfl⟩
  obtain ⟨M, hM⟩ : ∃ M, lnZ (L.drop fr) = M := ⟨_, rfl⟩
  obtain ⟨T, hT⟩ : ∃ T, kdZ (L.drop fr) = T := ⟨_, rfl⟩
  have hp : pcZ (L.drop fr) = ⟨(T : Int), sOf (((L.drop fr).take M).drop 6)⟩ := by unfold pcZ; rw [hM, hT]
  rw [hp, hM]
  rw [hM] at k6 kl
  rw [hN] at kl k66
  obtain ⟨p, cap, rfl, hcap, hc⟩ := hF.sl
  have hle := hF.le
  have hlen := hF.len
  have hNl : N = L.length - fr := by rw [← hN, List.length_drop]
  have hMb : M < 4294967296 := by rw [← hM]; exact lnZ_lt fun x hx => hF.by_ x (List.mem_of_mem_drop hx)
  obtain ⟨g, rfl, _⟩ := hc fr (L[fr]) (List.getElem?_eq_getElem (by omega))
  have hRw := hF.lt
  have hv : ∀ k, (Value.slice (some ⟨g, 0, none⟩) L.length cap).ownBlock = some k → k < w.heap.size := fun k hk => (hF.buf.lt hk).2
  have h0w := bel1 w (.cells #[.int .i64 0, .string ⟨#[]⟩] 36)
  have hF := hF.below h0w
  have hB := Below.refl (w.alloc (.cells #[.int .i64 0, .string ⟨#[]⟩] 36)).heap.size (w.alloc (.cells #[.int .i64 0, .string ⟨#[]⟩] 36))
  have hR := hF.lt
  clear hk hp
  have key : ∀ w3 : World, Fr w3 B R (.slice (some ⟨g, 0, none⟩) L.length cap) L (fr + M) lim er → ∀ c, (convert 33 9 (.slice (some ⟨g, fr + 6, none⟩) (M - 6) c)).run Try.prog w3 = .ok (.string (sOf (((L.drop fr).take M).drop 6))) w3 := fun w3 h3 c => by
    refine conv_at w3 g (fr + 6) (M - 6) c _ (by rw [List.length_drop, List.length_take, hN]; omega) fun k x hx => ?_
    obtain ⟨_, _, e1, _, hc3⟩ := h3.sl
    cases e1
    have hk : k < M - 6 := by have := (List.getElem?_eq_some_iff.1 hx).1; rw [List.length_drop, List.length_take, hN] at this; omega
    rw [List.getElem?_drop, List.getElem?_take_of_lt (by omega), List.getElem?_drop] at hx
    obtain ⟨g2, e, hh⟩ := hc3 (fr + 6 + k) x (by rw [← hx]; congr 1; omega)
    cases e
    exact hh
  have hcc : fr + M ≤ cap := by omega
  by_cases hz : cap - fr = 6
  · obtain rfl : M = 6 := by omega
    have key0 : ∀ (w3 : World) o c, (convert 33 9 (.slice (some ⟨g, o, none⟩) 0 c)).run Try.prog w3 = .ok (.string (sOf (((L.drop fr).take 6).drop 6))) w3 := fun w3 o c => by
      have : ((L.drop fr).take 6).drop 6 = [] := List.eq_nil_of_length_eq_zero (by rw [List.length_drop, List.length_take]; omega)
      rw [this]
      exact conv_at w3 g o 0 c [] rfl fun k x hx => by cases hx
    generalize sOf (((L.drop fr).take 6).drop 6) = s at *
    clear key
    go_enter Try.func37, Try.ntmps37
    go_wp2_with (first
      | (go_at_call 41; refine (kind_n hF hN (by omega) hT).mono ?_; rintro _ w1 ⟨rfl, hb⟩; have hF := hF.below hb; have hB := hB.trans (hb.mono hB.size); clear hb)
      | (go_at_call 26; refine (length_n hF hN (by omega) hM).mono ?_; rintro _ w1 ⟨rfl, hb⟩; have hF := hF.below hb; have hB := hB.trans (hb.mono hB.size); clear hb)
      | (go_at_call 42; refine (take_any hF hcap 6 (by decide) (by omega)).mono ?_; rintro _ w2 ⟨rfl, kk, hw2⟩; obtain ⟨hG, hK, x0, x1, xf, hW⟩ := aftF hF hB hRw (by omega) hw2; clear hw2 hF hB))
    have y0 := (World.cell?_setCell_other (w2.setCell ⟨w.heap.size, 0, none⟩ (.int .i64 (T : Int))) ⟨w.heap.size, 1, none⟩ ⟨w.heap.size, 0, none⟩ (.string s) (by simp)).trans (World.cell?_setCell_same w2 ⟨w.heap.size, 0, none⟩ (.int .i64 (T : Int)) x0)
    have y1 := World.cell?_setCell_same (w2.setCell ⟨w.heap.size, 0, none⟩ (.int .i64 (T : Int))) ⟨w.heap.size, 1, none⟩ (.string s) ((World.cell?_setCell_other w2 ⟨w.heap.size, 0, none⟩ ⟨w.heap.size, 1, none⟩ (.int .i64 (T : Int)) (by simp)).trans x1)
    have hE := endF hG hK hW hRw hv (.int .i64 (T : Int)) (.string s)
    generalize (w2.setCell ⟨w.heap.size, 0, none⟩ (.int .i64 (T : Int))).setCell ⟨w.heap.size, 1, none⟩ (.string s) = w3 at y0 y1 hE ⊢
    exact bodyPost_ret (v := .agg #[.int .i64 (T : Int), .string s]) (by simp [results, Try.results37, go_sem, y0, y1]) rfl ⟨rfl, hE⟩
  · have hz2 : ¬ cap - fr - 6 = 0 := by omega
    have hz3 : 6 < cap - fr := by omega
    have hz4 : ¬ cap - fr = 0 := by omega
    have hMn : (6 : Int) ≤ (M : Int) := by omega
    generalize sOf (((L.drop fr).take M).drop 6) = s at *
    go_enter Try.func37, Try.ntmps37
    go_wp2_with (first
      | (go_at_call 41; refine (kind_n hF hN (by omega) hT).mono ?_; rintro _ w1 ⟨rfl, hb⟩; have hF := hF.below hb; have hB := hB.trans (hb.mono hB.size); clear hb)
      | (go_at_call 26; refine (length_n hF hN (by omega) hM).mono ?_; rintro _ w1 ⟨rfl, hb⟩; have hF := hF.below hb; have hB := hB.trans (hb.mono hB.size); clear hb)
      | (go_at_call 42; refine (take_any hF hcap M (by omega) (by omega)).mono ?_; rintro _ w2 ⟨rfl, kk, hw2⟩; obtain ⟨hG, hK, x0, x1, xf, hW⟩ := aftF hF hB hRw (by omega) hw2; have key := key _ hG; clear hw2 hF hB))
    have y0 := (World.cell?_setCell_other (w2.setCell ⟨w.heap.size, 0, none⟩ (.int .i64 (T : Int))) ⟨w.heap.size, 1, none⟩ ⟨w.heap.size, 0, none⟩ (.string s) (by simp)).trans (World.cell?_setCell_same w2 ⟨w.heap.size, 0, none⟩ (.int .i64 (T : Int)) x0)
    have y1 := World.cell?_setCell_same (w2.setCell ⟨w.heap.size, 0, none⟩ (.int .i64 (T : Int))) ⟨w.heap.size, 1, none⟩ (.string s) ((World.cell?_setCell_other w2 ⟨w.heap.size, 0, none⟩ ⟨w.heap.size, 1, none⟩ (.int .i64 (T : Int)) (by simp)).trans x1)
    have hE := endF hG hK hW hRw hv (.int .i64 (T : Int)) (.string s)
    generalize (w2.setCell ⟨w.heap.size, 0, none⟩ (.int .i64 (T : Int))).setCell ⟨w.heap.size, 1, none⟩ (.string s) = w3 at y0 y1 hE ⊢
    exact bodyPost_ret (v := .agg #[.int .i64 (T : Int), .string s]) (by simp [results, Try.results37, go_sem, y0, y1]) rfl ⟨rfl, hE⟩
end Go.Proofs.Ytnicdehbedcdpaa
