/- What only draws: same, Held, Need and the document's. -/
import Derived.Test.YtnicdehbedcdpaaFnE
namespace Go.Proofs.Ytnicdehbedcdpaa
open Go.ChangeShapes Go.WideShapes Go.ChangeAt Go.RowKit

theorem count_d {w : World} {B R : Nat} {v : Value} {L : List Nat} {fr : Nat} {lim er : Int} (h : Fr w B R v L fr lim er) :
    Calls Try.prog 25 #[.pointer (some ⟨R, 0, none⟩)] w fun e w' => e = .returned (.int .i64 ((L.length - fr : Nat) : Int)) ∧ ∃ m, w' = w.drewN m := by
  have e0 := h.c0
  have e1 := h.c1
  have hle := h.le
  have hlen := h.len
  obtain ⟨p, cap, rfl, _⟩ := h.sl
  have hs : ((L.length - fr : Nat) : Int) = (L.length : Int) - (fr : Int) := by omega
  rw [hs]
  clear h
  go_enter Try.func25, Try.ntmps25
  go_wp2_with fail
  go_quiet (fail)
  go_wp2_with fail
  go_ret
  exact ⟨rfl, _, rfl⟩
set_option maxHeartbeats 2000000 in
theorem number_d {w : World} {B R : Nat} {v : Value} {L : List Nat} {fr : Nat} {lim er : Int} (h : Fr w B R v L fr lim er) (a b : Nat) (hab : a < b) (hb6 : b ≤ 6) (h4 : b - a ≤ 4) (hb : fr + b ≤ L.length) :
    Calls Try.prog 35 #[.pointer (some ⟨R, 0, none⟩), .int .i64 (a : Int), .int .i64 (b : Int)] w fun e w' => e = .returned (.int .i64 ((nm (((L.drop fr).drop a).take (b - a)) : Nat) : Int)) ∧ ∃ q, w' = w.drewN q := by
  have e0 := h.c0
  have e1 := h.c1
  have hle := h.le
  have hlen := h.len
  have hby := h.by_
  obtain ⟨p, cap, rfl, hcap, hc⟩ := h.sl
  obtain ⟨g, rfl, _⟩ := hc fr (L[fr]) (List.getElem?_eq_getElem (by omega))
  have hcell : ∀ k x, k < b - a → ((L.drop fr).drop a)[k]? = some x → w.cell? ⟨g, fr + a + k, none⟩ = some (.int .u8 (x : Int)) := fun k x hk hx => by
    rw [List.getElem?_drop, List.getElem?_drop] at hx
    obtain ⟨g2, e, hh⟩ := hc (fr + a + k) x (by rw [← hx]; congr 1; omega)
    cases e
    exact hh
  have hlen2 : ((L.drop fr).drop a).length = L.length - fr - a := by rw [List.length_drop, List.length_drop]
  have hbd : ∀ k, nm (((L.drop fr).drop a).take k) < 256 ^ k := fun k => nm_lt (fun x hx => hby x (List.mem_of_mem_drop (List.mem_of_mem_drop (List.mem_of_mem_take hx)))) (by rw [List.length_take]; omega)
  generalize hD : (L.drop fr).drop a = D at hcell hlen2 hbd ⊢
  have hby2 : ∀ x ∈ D, x < 256 := fun x hx => by rw [← hD] at hx; exact hby x (List.mem_of_mem_drop (List.mem_of_mem_drop hx))
  clear hD hc hby h
  generalize hm : b - a = m at hcell h4 ⊢
  have hB0 := Below.refl w.heap.size w
  have s1 : IntKind.i64.wrap ((fr : Int) + (a : Int)) = ((fr + a : Nat) : Int) := by rw [IntKind.wrap_i64]; omega
  have s2 : IntKind.i64.wrap ((fr : Int) + (b : Int)) = ((fr + b : Nat) : Int) := by rw [IntKind.wrap_i64]; omega
  go_enter Try.func35, Try.ntmps35
  go_wp2_with fail
  go_quiet (fail)
  go_wp2_with fail
  have e4 : fr + b - (fr + a) = m := by omega
  rw [e4]
  go_loopw [7, 28] (fun n i wr => ∃ k : Nat, k ≤ m ∧ i = .int .i64 (k : Int) ∧ n = .int .i64 ((nm (D.take k) : Nat) : Int) ∧ wr = w.drewN nq) (fun _ i _ => m - (intOf i).toNat)
  case atStart => exact ⟨0, Nat.zero_le _, rfl, rfl, rfl⟩
  case round =>
    obtain ⟨k, hk, rfl, rfl, rfl⟩ := hrel
    by_cases hlt : k < m
    · have hx : D[k]? = some D[k] := List.getElem?_eq_getElem (by omega)
      have hc := hcell k _ hlt hx
      have hst := nmF_take D k _ hx
      have hbk := hbd k
      have hxl := hby2 _ (List.getElem_mem (show k < D.length by omega))
      have hp : 256 ^ k ≤ 256 ^ 3 := Nat.pow_le_pow_right (by decide) (by omega)
      have hor := or_byte (nm (D.take k)) D[k] (by omega) hxl
      have hlti : (k : Int) < (m : Int) := by omega
      generalize nm (D.take k) = N at *
      generalize D[k] = x at *
      have hw1 : IntKind.i64.wrap ((N : Int) * 256) = (N : Int) * 256 := by rw [IntKind.wrap_i64]; omega
      clear hcell hbd hby2 hB0
      go_wp2_with fail
      go_roundw
      case rel => exact ⟨k + 1, by omega, by go_num, by rw [hst]; simp, trivial⟩
      case measure => simp [intOf]; omega
    · obtain rfl : k = m := by omega
      have hlti : ¬ (k : Int) < (k : Int) := by omega
      go_wp2_with fail
      go_ret
      exact ⟨rfl, _, rfl⟩
set_option maxHeartbeats 1000000 in
theorem same_d (l : List Pcl) (pa pb : Option Addr) (ca cb H : Nat) (w : World) (ha : PRow w pa H l) (hb : PRow w pb H l) (hl : l.length ≤ 9223372036854775000) :
    Calls Try.prog 15 #[.slice pa l.length ca, .slice pb l.length cb] w fun r w' => r = .returned (.bool true) ∧ ∃ m, w' = w.drewN m := by
  generalize hn : l.length = n at hl ⊢
  go_enter Try.func15, Try.ntmps15
  go_wp2_with fail
  go_loopw [5] (fun i wr => ∃ (j d : Nat), j ≤ n ∧ i = .int .i64 j ∧ Hid (wr = w.drewN d)) (fun i _ => n - (RowKit.intOf i).toNat)
  case atStart => exact ⟨0, 0, Nat.zero_le _, by go_num, rfl⟩
  case round =>
    obtain ⟨j, d, hj, rfl, hd⟩ := hrel
    by_cases hlt : j < n
    · have x1 : l[j]? = some l[j] := List.getElem?_eq_getElem (by omega)
      obtain ⟨g, o, rfl, _, q0, q1⟩ := ha.c j _ x1
      obtain ⟨g2, o2, rfl, _, q2, q3⟩ := hb.c j _ x1
      have hcd : ∀ a, wr.cell? a = w.cell? a := fun a => by rw [show wr = w.drewN d from hd]; rfl
      have r0 := (hcd _).trans q0
      have r1 := (hcd _).trans q1
      have r2 := (hcd _).trans q2
      have r3 := (hcd _).trans q3
      have hlti : (j : Int) < n := by omega
      generalize l[j] = p at *
      clear q0 q1 q2 q3 ha hb x1 hcd
      go_wp2_with fail
      go_quiet (fail)
      go_wp2_with fail
      go_roundw
      case rel => exact ⟨j + 1, d + nq, by omega, by go_num, by rw [show wr = w.drewN d from hd]; exact drewN_add _ _ _⟩
      case measure => simp [RowKit.intOf]; omega
    · obtain rfl : j = n := by omega
      have hlti : ¬ (j : Int) < j := by omega
      go_wp2_with fail
      go_ret
      exact ⟨rfl, d, hd⟩
theorem count_dn {w : World} {B R : Nat} {v : Value} {L : List Nat} {fr : Nat} {lim er : Int} (h : Fr w B R v L fr lim er) {N : Nat} (hN : (L.drop fr).length = N) (n : Nat) :
    Calls Try.prog 25 #[.pointer (some ⟨R, 0, none⟩)] (w.drewN n) fun e w' => e = .returned (.int .i64 (N : Int)) ∧ ∃ m, w' = (w.drewN n).drewN m := by
  rw [List.length_drop] at hN
  rw [← hN]
  exact count_d (h.drewN n)
theorem length_d {w : World} {B R : Nat} {v : Value} {L : List Nat} {lim er : Int} (h : Fr w B R v L 0 lim er) (h4 : 4 ≤ L.length) {T : Nat} (hT : lnZ L = T) :
    Calls Try.prog 26 #[.pointer (some ⟨R, 0, none⟩)] w fun e w' => e = .returned (.int .i64 (T : Int)) ∧ ∃ m, w' = w.drewN m := by
  have hc := number_d h 0 4 (by decide) (by decide) (by decide) (by omega)
  rw [List.drop_zero, List.drop_zero] at hc
  change Calls _ _ _ _ (fun e w' => e = .returned (.int .i64 ((lnZ L : Nat) : Int)) ∧ ∃ q, w' = w.drewN q) at hc
  rw [hT] at hc
  go_enter Try.func26, Try.ntmps26
  go_wp2_with (go_at_call 35; refine hc.mono ?_; rintro _ w1 ⟨rfl, hb⟩)
  go_ret
  exact ⟨rfl, hb⟩
theorem Held_d {w : World} {B R : Nat} {v : Value} {L : List Nat} {lim er : Int} (h : Fr w B R v L 0 lim er) {N : Nat} (hN : L.length = N) :
    Calls Try.prog 10 #[.pointer (some ⟨R, 0, none⟩)] w fun e w' => e = .returned (.int .i64 (N : Int)) ∧ ∃ m, w' = w.drewN m := by
  have hc := count_d h
  rw [Nat.sub_zero, hN] at hc
  go_enter Try.func10, Try.ntmps10
  go_wp2_with (go_at_call 25; refine hc.mono ?_; rintro _ w1 ⟨rfl, hb⟩)
  go_ret
  exact ⟨rfl, hb⟩
set_option maxHeartbeats 1000000 in
theorem Need_d {w : World} {B R : Nat} {v : Value} {L : List Nat} {lim er : Int} (h : Fr w B R v L 0 lim er) :
    Calls Try.prog 11 #[.pointer (some ⟨R, 0, none⟩)] w fun e w' => e = .returned (.int .i64 (ndZ L er)) ∧ ∃ m, w' = w.drewN m := by
  unfold ndZ
  have e3 := h.c3
  have hlen := h.len
  have hdz : (L.drop 0).length = L.length := by rw [List.drop_zero]
  by_cases he : er = 0
  · subst he
    rw [if_neg (by simp)]
    by_cases h4 : L.length < 4
    · rw [if_pos h4]
      generalize hN : L.length = N at *
      have h4i : (N : Int) < 4 := by omega
      have s1 : IntKind.i64.wrap (6 - (N : Int)) = 6 - (N : Int) := by rw [IntKind.wrap_i64]; omega
      have hc := fun n => count_dn h hdz n
      have hc0 := hc 0
      go_enter Try.func11, Try.ntmps11
      go_wp2_with (first
        | (go_at_call 25; refine hc0.mono ?_; clear hc0; rintro _ w1 ⟨rfl, m1, rfl⟩)
        | (go_at_call 25; refine (hc _).mono ?_; rintro _ w1 ⟨rfl, m2, rfl⟩))
      go_ret
      refine ⟨rfl, m1 + m2, ?_⟩
      first
        | rfl
        | exact drewN_add _ _ _
        | simp
    · rw [if_neg h4]
      obtain ⟨T, hT⟩ : ∃ T, lnZ L = T := ⟨_, rfl⟩
      have hlt := lnZ_lt h.by_
      have h4L : 4 ≤ L.length := by omega
      generalize hN : L.length = N at *
      rw [hT] at hlt ⊢
      have h4i : ¬ (N : Int) < 4 := by omega
      have s1 : IntKind.i64.wrap ((T : Int) - (N : Int)) = (T : Int) - (N : Int) := by rw [IntKind.wrap_i64]; omega
      have hc := fun n => count_dn h hdz n
      have hln := fun n => length_d (h.drewN n) (by omega) hT
      have hc0 := hc 0
      go_enter Try.func11, Try.ntmps11
      go_wp2_with (go_at_call 25; refine hc0.mono ?_; clear hc0; rintro _ w1 ⟨rfl, m1, rfl⟩)
      have hF1 := h.drewN m1
      generalize hwq : w.drewN m1 = wq at hF1 ⊢
      go_quiet ((first
        | (go_at_call 26; exact Calls.quiet_of (length_d (hF1.drewN _) (by omega) hT))
        | (go_at_call 25; exact Calls.quiet_of (count_dn hF1 hdz _))))
      go_wp2_with fail
      go_ret
      exact ⟨rfl, m1 + nq, by rw [← hwq]; exact drewN_add _ _ _⟩
  · rw [if_pos he]
    have hb1 : (er == 0) = false := beq_eq_false_iff_ne.2 he
    have hb2 : (er != 0) = true := by rw [bne, hb1]; rfl
    go_enter Try.func11, Try.ntmps11
    go_wp2_with fail
    go_ret
    exact ⟨rfl, 0, rfl⟩
theorem refHeld_d {w : World} {Q : Nat} {L : List Nat} {lim er : Int} (h : RF w Q L lim er) {N : Nat} (hN : L.length = N) : Calls Try.prog 23 #[.pointer (some ⟨Q, 0, none⟩)] w fun e w' => e = .returned (.int .i64 (N : Int)) ∧ ∃ m, w' = w.drewN m := by
  have e1 := h.c1
  have hz : (sOf L).size = N := by rw [sOf_size, hN]
  go_enter Try.func23, Try.ntmps23
  go_wp2_with fail
  go_ret
  exact ⟨by simp, 0, rfl⟩
set_option maxHeartbeats 1000000 in
theorem refNeed_d {w : World} {Q : Nat} {L : List Nat} {lim er : Int} (h : RF w Q L lim er) (hL : L.length ≤ 9223372036854770000) : Calls Try.prog 24 #[.pointer (some ⟨Q, 0, none⟩)] w fun e w' => e = .returned (.int .i64 (ndZ L er)) ∧ ∃ m, w' = w.drewN m := by
  unfold ndZ
  have e1 := h.c1
  have e2 := h.c2
  have hz := sOf_size L
  by_cases he : er = 0
  · subst he
    rw [if_neg (by simp)]
    by_cases h4 : L.length < 4
    · rw [if_pos h4]
      generalize hN : L.length = N at *
      have h4i : (N : Int) < 4 := by omega
      have s1 : IntKind.i64.wrap (6 - (N : Int)) = 6 - (N : Int) := by rw [IntKind.wrap_i64]; omega
      go_enter Try.func24, Try.ntmps24
      go_wp2_with fail
      go_ret
      exact ⟨rfl, 0, rfl⟩
    · rw [if_neg h4]
      have c1 := fun W => refnum_any (sOf L) 0 4 (by omega) (by decide) (by omega) W
      rw [lOf_sOf L h.by_, List.drop_zero] at c1
      change ∀ W, Calls _ _ _ _ (fun e w' => e = .returned (.int .i64 ((lnZ L : Nat) : Int)) ∧ _) at c1
      have hlt := lnZ_lt h.by_
      generalize hN : L.length = N at *
      generalize lnZ L = T at *
      have h4i : ¬ (N : Int) < 4 := by omega
      have s1 : IntKind.i64.wrap ((T : Int) - (N : Int)) = (T : Int) - (N : Int) := by rw [IntKind.wrap_i64]; omega
      go_enter Try.func24, Try.ntmps24
      go_wp2_with fail
      go_quiet ((go_at_call 32; exact Calls.quiet_of_same (c1 _)))
      go_wp2_with fail
      go_ret
      exact ⟨rfl, _, rfl⟩
  · rw [if_pos he]
    have hb1 : (er == 0) = false := beq_eq_false_iff_ne.2 he
    have hb2 : (er != 0) = true := by rw [bne, hb1]; rfl
    go_enter Try.func24, Try.ntmps24
    go_wp2_with fail
    go_ret
    exact ⟨rfl, 0, rfl⟩
end Go.Proofs.Ytnicdehbedcdpaa
