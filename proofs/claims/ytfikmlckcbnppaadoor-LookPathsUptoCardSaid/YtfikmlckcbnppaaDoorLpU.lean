/- Package look's reader: number. -/
import Derived.Test.YtfikmlckcbnppaaDoorLpN
namespace Go.Proofs.YtfikmlckcbnppaaDoor
open Go.ChangeShapes Go.WideShapes Go.ChangeAt Go.RowKit Go.Shelf

theorem nuE_stop {s : ByteArray} {f b n : Nat} (h : ¬ (b < s.size ∧ ndig (ch s b) = true ∧ (b = f ∨ 0 < n) ∧ 10 * n + (ch s b - 48) ≤ 65535)) : nuE s f (s.size - b) b n = (b, n) := by
  cases hk : s.size - b with
  | zero => rfl
  | succ k =>
    unfold nuE
    rw [if_neg h]
theorem nuE_go {s : ByteArray} {f b n : Nat} (h : b < s.size ∧ ndig (ch s b) = true ∧ (b = f ∨ 0 < n) ∧ 10 * n + (ch s b - 48) ≤ 65535) : nuE s f (s.size - b) b n = nuE s f (s.size - (b + 1)) (b + 1) (10 * n + (ch s b - 48)) := by
  obtain ⟨k, hk⟩ : ∃ k, s.size - b = k + 1 := ⟨s.size - b - 1, by omega⟩
  rw [hk, nuE, if_pos h]
  congr 1
  omega
/-- Where number stands. -/
structure NuS (s : ByteArray) (f b n : Nat) : Prop where
  fb : f ≤ b
  bs : b ≤ s.size
  nn : n ≤ 65535
  e : nuE s f (s.size - b) b n = nuE s f (s.size - f) f 0
set_option maxRecDepth 20000 in
set_option maxHeartbeats 4000000 in
theorem number_any (R : Nat) (s : ByteArray) (f : Nat) (hs : s.size ≤ 281474976710656) (hf : f ≤ s.size) (w w0 : World) (h : Rd w0 R s f w) {E N : Nat} (hE : nuE s f (s.size - f) f 0 = (E, N)) : Calls Tryd.prog 34 #[.pointer (some ⟨R, 0, none⟩)] w fun e w' => Rd w0 R s E w' ∧ ((E = f ∧ e = .panicked [pvE]) ∨ (E ≠ f ∧ e = .returned (.int .i64 (N : Int)))) := by
  replace hE : Hid _ := ⟨hE⟩
  have k1 := h.ra.h1
  have H0 : Hid (NuS s f f 0 ∧ Rd w0 R s f w) := ⟨⟨Nat.le_refl _, hf, by omega, rfl⟩, h⟩
  clear h
  go_enter Tryd.func34, Tryd.ntmps34
  go_wp2_with fail
  go_loopw [4] (fun q wr => ∃ b n : Nat, q = .int .i64 (n : Int) ∧ Hid (NuS s f b n ∧ Rd w0 R s b wr)) (fun _ wr => s.size - plcR wr R)
  case atStart => exact ⟨f, 0, by go_num, H0⟩
  case round =>
    clear H0 k1
    obtain ⟨b, n, rfl, hI⟩ := hrel
    obtain ⟨p, p0, pN, pE, pI, k0, k1⟩ := rd_class hI.out.2
    have hbs := hI.out.1.bs
    have hbi : (b : Int) ≤ 281474976710656 := by omega
    have hfb := hI.out.1.fb
    have hn := hI.out.1.nn
    have hnI : (n : Int) ≤ 65535 := by omega
    have hn0 : (0 : Int) ≤ n := by omega
    by_cases hlt : b < s.size
    · have d1 : decide ((b : Int) < (s.size : Int)) = true := decide_eq_true (by omega)
      have d1n : decide (b < s.size) = true := decide_eq_true hlt
      have ix : ∀ w : World, (Instr.index 9 (.string s) (.int .i64 (b : Int))).run Tryd.prog w = .ok (.int .u8 (ch s b : Int)) w := fun w => nidx (w := w) s b hlt .i64
      have hc6 := ch_lt s b
      obtain ⟨c, hc⟩ : ∃ c, ch s b = c := ⟨_, rfl⟩
      rw [hc] at ix hc6
      replace hc : Hid _ := ⟨hc⟩
      have hcI : (c : Int) < 256 := by omega
      by_cases h48 : 48 ≤ c
      · have d2 : decide ((48 : Int) ≤ (c : Int)) = true := decide_eq_true (by omega)
        have d2n : decide (48 ≤ c) = true := decide_eq_true h48
        by_cases h57 : c ≤ 57
        · have d3 : decide ((c : Int) ≤ 57) = true := decide_eq_true (by omega)
          have d3n : decide (c ≤ 57) = true := decide_eq_true h57
          have hdg : Hid (ndig (ch s b) = true) := ⟨by rw [hc.out]; unfold ndig; rw [d2n, d3n]; rfl⟩
          have hw8 : IntKind.u8.wrap ((c : Int) - 48) = ((c - 48 : Nat) : Int) := by rw [IntKind.wrap_u8]; omega
          obtain ⟨d, hd⟩ : ∃ d, c - 48 = d := ⟨_, rfl⟩
          rw [hd] at hw8
          have hd9 : (d : Int) ≤ 9 := by omega
          have hd0 : (0 : Int) ≤ d := by omega
          replace hd : Hid _ := ⟨hd⟩
          go_wp2_with fail
          refine wp_region_pp p [0, 1, 2, 3, 4, 5, 6, 7, 8, 9, 10, 11, 12, 13, 14, 15, 16, 17, 18, 19, 20, 21, 22, 23, 24, 25, 26, 27, 28, 29, 30, 31, 32, 33] (by kernel_rfl) (by kernel_rfl) (fun _ _ d _ _ h => by cases d <;> exact h) p0 ?_
          simp only [List.filterMap_cons, List.filterMap_nil, List.getElem?_cons_zero, List.getElem?_cons_succ]
          generalize wr.drew = W at p0 ⊢
          repeat (first
            | (refine lx_one rfl ?_; (first | go_big_quiet_skip | (go_big_quiet_want; go_big_quiet_op; go_big_quiet_on)); refine wpQuiet_nil ?_)
            | (refine lx_skip (by rfl) ?_; simp only [pts]))
          refine lx_done ?_
          replace p0 := pI _ (pE _ p0).out.drew
          go_wp2_with fail
          refine wp_region_pp p [0, 1, 2, 3, 4, 5, 6, 7, 8, 9, 10, 11, 12, 13, 14] (by kernel_rfl) (by kernel_rfl) (fun _ _ d _ _ h => by cases d <;> exact h) p0 ?_
          simp only [List.filterMap_cons, List.filterMap_nil, List.getElem?_cons_zero, List.getElem?_cons_succ]
          generalize W.drew = W at p0 ⊢
          repeat (first
            | (refine lx_one rfl ?_; (first | go_big_quiet_skip | (go_big_quiet_want; go_big_quiet_op; go_big_quiet_on)); refine wpQuiet_nil ?_)
            | (refine lx_skip (by rfl) ?_; simp only [pts]))
          refine lx_done ?_
          have hF := pE _ p0
          have j1 := hF.out.ra.h1
          have j2 := hF.out.ra.fz 1
          clear k0 k1 pN p0 pE pI
          have hM0 : Hid (plcR wr R = b) := ⟨plc_of hI.out.2.ra.h1⟩
          by_cases h65 : 10 * n + d ≤ 65535
          · have m1 : decide ((65535 : Int) < 10 * (n : Int) + (d : Int)) = false := decide_eq_false (by omega)
            by_cases hfn : b = f ∨ 0 < n
            · have hN : Hid (NuS s f (b + 1) (10 * n + d) ∧ Rd w0 R s (b + 1) (W.setCell ⟨R, 1, none⟩ (.int .i64 ((b : Int) + 1)))) := ⟨⟨by omega, by omega, h65, by
                have hg := nuE_go (s := s) (f := f) (b := b) (n := n) ⟨hlt, hdg.out, hfn, by rw [hc.out, hd.out]; exact h65⟩
                rw [hc.out, hd.out] at hg
                rw [← hg]
                exact hI.out.1.e⟩, hF.out.put _ (b + 1) (by omega)⟩
              have hM : Hid (plcR (W.setCell ⟨R, 1, none⟩ (.int .i64 ((b : Int) + 1))) R = b + 1) := ⟨plc_of hN.out.2.ra.h1⟩
              have hcase : (decide ((f : Int) < (b : Int)) = false ∧ decide (f < b) = false) ∨ ((decide ((f : Int) < (b : Int)) = true ∧ decide (f < b) = true) ∧ ((n : Int) == 0) = false ∧ (n == 0) = false) := by
                rcases Nat.lt_or_ge f b with h | h
                · exact .inr ⟨⟨decide_eq_true (by omega), decide_eq_true h⟩, beqN (by omega), beq_eq_false_iff_ne.2 (by omega)⟩
                · exact .inl ⟨decide_eq_false (by omega), decide_eq_false (by omega)⟩
              clear hI hF hfn
              rcases hcase with ⟨m2, m2n⟩ | ⟨⟨m2, m2n⟩, m3, m3n⟩
              all_goals
                go_wp2_with fail
                go_roundw
                case rel => exact ⟨b + 1, 10 * n + d, by go_num, hN⟩
                case measure => rw [hM.out, hM0.out]; omega
            · have m2 : decide ((f : Int) < (b : Int)) = true := decide_eq_true (by omega)
              have m2n : decide (f < b) = true := decide_eq_true (by omega)
              have hnz : n = 0 := by omega
              have m3 : ((n : Int) == 0) = true := by rw [hnz]; rfl
              have m3n : (n == 0) = true := by rw [hnz]; rfl
              have hNO : Hid (¬ (b < s.size ∧ ndig (ch s b) = true ∧ (b = f ∨ 0 < n) ∧ 10 * n + (ch s b - 48) ≤ 65535)) := ⟨fun hh => hfn hh.2.2.1⟩
              clear hnz
              obtain ⟨rfl, rfl⟩ : E = b ∧ N = n := by
                have h1 := hE.out
                rw [← hI.out.1.e, nuE_stop hNO.out] at h1
                injection h1 with h1 h2
                exact ⟨h1.symm, h2.symm⟩
              have hba : E ≠ f := fun e => hfn (.inl e)
              have cN := needSome_ok R s E f hba _ w0 hF.out
              clear hI hF
              go_wp2_with (go_at_call 39; refine cN.mono ?_; rintro _ w1 ⟨rfl, h1⟩)
              go_ret
              exact ⟨h1, .inr ⟨hba, rfl⟩⟩
          · have m1 : decide ((65535 : Int) < 10 * (n : Int) + (d : Int)) = true := decide_eq_true (by omega)
            have hNO : Hid (¬ (b < s.size ∧ ndig (ch s b) = true ∧ (b = f ∨ 0 < n) ∧ 10 * n + (ch s b - 48) ≤ 65535)) := ⟨fun hh => h65 (by have := hh.2.2.2; rw [hc.out, hd.out] at this; exact this)⟩
            obtain ⟨rfl, rfl⟩ : E = b ∧ N = n := by
              have h1 := hE.out
              rw [← hI.out.1.e, nuE_stop hNO.out] at h1
              injection h1 with h1 h2
              exact ⟨h1.symm, h2.symm⟩
            by_cases hba : E = f
            · obtain rfl : f = E := hba.symm
              have cN := needSome_no R s f _ w0 hF.out
              clear hI hF
              go_wp2_with (go_at_call 39; refine cN.mono ?_; rintro _ w1 ⟨rfl, h1⟩)
              exact ⟨rfl, h1, rfl⟩
            · have cN := needSome_ok R s E f hba _ w0 hF.out
              clear hI hF
              go_wp2_with (go_at_call 39; refine cN.mono ?_; rintro _ w1 ⟨rfl, h1⟩)
              go_ret
              exact ⟨h1, .inr ⟨hba, rfl⟩⟩
        · have d3 : decide ((c : Int) ≤ 57) = false := decide_eq_false (by omega)
          have d3n : decide (c ≤ 57) = false := decide_eq_false h57
          have hNO : Hid (¬ (b < s.size ∧ ndig (ch s b) = true ∧ (b = f ∨ 0 < n) ∧ 10 * n + (ch s b - 48) ≤ 65535)) := ⟨fun hh => by
            have := hh.2.1
            rw [hc.out] at this
            unfold ndig at this
            rw [d3n] at this
            simp at this⟩
          go_wp2_with fail
          refine wp_region_pp p [0, 1, 2, 3, 4, 5, 6, 7, 8, 9, 10, 11, 12, 13, 14, 15, 16, 17, 18, 19, 20, 21, 22, 23, 24, 25, 26, 27, 28, 29, 30, 31, 32, 33] (by kernel_rfl) (by kernel_rfl) (fun _ _ d _ _ h => by cases d <;> exact h) p0 ?_
          simp only [List.filterMap_cons, List.filterMap_nil, List.getElem?_cons_zero, List.getElem?_cons_succ]
          generalize wr.drew = W at p0 ⊢
          repeat (first
            | (refine lx_one rfl ?_; (first | go_big_quiet_skip | (go_big_quiet_want; go_big_quiet_op; go_big_quiet_on)); refine wpQuiet_nil ?_)
            | (refine lx_skip (by rfl) ?_; simp only [pts]))
          refine lx_done ?_
          have hF := pE _ p0
          clear k0 k1 pN p0 pE pI
          obtain ⟨rfl, rfl⟩ : E = b ∧ N = n := by
            have h1 := hE.out
            rw [← hI.out.1.e, nuE_stop hNO.out] at h1
            injection h1 with h1 h2
            exact ⟨h1.symm, h2.symm⟩
          by_cases hba : E = f
          · obtain rfl : f = E := hba.symm
            have cN := needSome_no R s f _ w0 hF.out
            clear hI hF
            go_wp2_with (go_at_call 39; refine cN.mono ?_; rintro _ w1 ⟨rfl, h1⟩)
            exact ⟨rfl, h1, rfl⟩
          · have cN := needSome_ok R s E f hba _ w0 hF.out
            clear hI hF
            go_wp2_with (go_at_call 39; refine cN.mono ?_; rintro _ w1 ⟨rfl, h1⟩)
            go_ret
            exact ⟨h1, .inr ⟨hba, rfl⟩⟩
      · have d2 : decide ((48 : Int) ≤ (c : Int)) = false := decide_eq_false (by omega)
        have d2n : decide (48 ≤ c) = false := decide_eq_false h48
        have hNO : Hid (¬ (b < s.size ∧ ndig (ch s b) = true ∧ (b = f ∨ 0 < n) ∧ 10 * n + (ch s b - 48) ≤ 65535)) := ⟨fun hh => by
          have := hh.2.1
          rw [hc.out] at this
          unfold ndig at this
          rw [d2n] at this
          simp at this⟩
        go_wp2_with fail
        refine wp_region_pp p [0, 1, 2, 3, 4, 5, 6, 7, 8, 9, 10, 11, 12, 13, 14, 15, 16, 17, 18, 19, 20, 21, 22, 23, 24, 25, 26, 27, 28, 29, 30, 31, 32, 33] (by kernel_rfl) (by kernel_rfl) (fun _ _ d _ _ h => by cases d <;> exact h) p0 ?_
        simp only [List.filterMap_cons, List.filterMap_nil, List.getElem?_cons_zero, List.getElem?_cons_succ]
        generalize wr.drew = W at p0 ⊢
        repeat (first
          | (refine lx_one rfl ?_; (first | go_big_quiet_skip | (go_big_quiet_want; go_big_quiet_op; go_big_quiet_on)); refine wpQuiet_nil ?_)
          | (refine lx_skip (by rfl) ?_; simp only [pts]))
        refine lx_done ?_
        have hF := pE _ p0
        clear k0 k1 pN p0 pE pI
        obtain ⟨rfl, rfl⟩ : E = b ∧ N = n := by
          have h1 := hE.out
          rw [← hI.out.1.e, nuE_stop hNO.out] at h1
          injection h1 with h1 h2
          exact ⟨h1.symm, h2.symm⟩
        by_cases hba : E = f
        · obtain rfl : f = E := hba.symm
          have cN := needSome_no R s f _ w0 hF.out
          clear hI hF
          go_wp2_with (go_at_call 39; refine cN.mono ?_; rintro _ w1 ⟨rfl, h1⟩)
          exact ⟨rfl, h1, rfl⟩
        · have cN := needSome_ok R s E f hba _ w0 hF.out
          clear hI hF
          go_wp2_with (go_at_call 39; refine cN.mono ?_; rintro _ w1 ⟨rfl, h1⟩)
          go_ret
          exact ⟨h1, .inr ⟨hba, rfl⟩⟩
    · have d1 : decide ((b : Int) < (s.size : Int)) = false := decide_eq_false (by omega)
      have d1n : decide (b < s.size) = false := decide_eq_false hlt
      go_wp2_with fail
      refine wp_region_pp p [0, 1, 2, 3, 4, 5, 6, 7, 8, 9, 10, 11, 12, 13, 14, 15, 16, 17, 18, 19, 20, 21, 22, 23, 24, 25, 26, 27, 28, 29, 30, 31, 32, 33] (by kernel_rfl) (by kernel_rfl) (fun _ _ d _ _ h => by cases d <;> exact h) p0 ?_
      simp only [List.filterMap_cons, List.filterMap_nil, List.getElem?_cons_zero, List.getElem?_cons_succ]
      generalize wr.drew = W at p0 ⊢
      repeat (first
        | (refine lx_one rfl ?_; (first | go_big_quiet_skip | (go_big_quiet_want; go_big_quiet_op; go_big_quiet_on)); refine wpQuiet_nil ?_)
        | (refine lx_skip (by rfl) ?_; simp only [pts]))
      refine lx_done ?_
      have hF := pE _ p0
      clear k0 k1 pN p0 pE pI
      obtain ⟨rfl, rfl⟩ : E = b ∧ N = n := by
        have h1 := hE.out
        rw [← hI.out.1.e, nuE_stop (fun hh => hlt hh.1)] at h1
        injection h1 with h1 h2
        exact ⟨h1.symm, h2.symm⟩
      by_cases hba : E = f
      · obtain rfl : f = E := hba.symm
        have cN := needSome_no R s f _ w0 hF.out
        clear hI hF
        go_wp2_with (go_at_call 39; refine cN.mono ?_; rintro _ w1 ⟨rfl, h1⟩)
        exact ⟨rfl, h1, rfl⟩
      · have cN := needSome_ok R s E f hba _ w0 hF.out
        clear hI hF
        go_wp2_with (go_at_call 39; refine cN.mono ?_; rintro _ w1 ⟨rfl, h1⟩)
        go_ret
        exact ⟨h1, .inr ⟨hba, rfl⟩⟩
end Go.Proofs.YtfikmlckcbnppaaDoor
