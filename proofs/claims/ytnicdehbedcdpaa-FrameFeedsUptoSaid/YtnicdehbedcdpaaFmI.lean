/- The document's Split. -/
import Derived.Test.YtnicdehbedcdpaaFmH
namespace Go.Proofs.Ytnicdehbedcdpaa
open Go.ChangeShapes Go.WideShapes Go.ChangeAt Go.RowKit

set_option maxHeartbeats 4000000 in
theorem refSplit_any (lim : Int) (s : ByteArray) (w : World) (hs : s.size ≤ 9223372036854775000) (hn : (cutZ lim (lOf s)).1.length ≤ 4398046511103) :
    Calls Try.prog 16 #[.int .i64 lim, .string s] w (SplP w (cutZ lim (lOf s))) := by
  generalize hC : cutZ lim (lOf s) = C at hn ⊢
  have hsz : (lOf s).length = s.size := lOf_length s
  go_enter Try.func16, Try.ntmps16
  go_wp2_with fail
  go_loopw [7, 8] (fun v i wr => ∃ (ps : List Pcl) (a : Nat), a ≤ s.size ∧ i = .int .i64 (a : Int) ∧ C = (ps ++ (cutZ lim ((lOf s).drop a)).1, a + (cutZ lim ((lOf s).drop a)).2.1, (cutZ lim ((lOf s).drop a)).2.2) ∧ POwn wr w.heap.size v ps ∧ Below w.heap.size w wr) (fun _ i _ => s.size - (intOf i).toNat)
  case atStart => exact ⟨[], 0, Nat.zero_le _, rfl, by rw [List.drop_zero, hC]; simp, World.ownsRow_nil _ _ _ _, Below.refl _ _⟩
  case round =>
    obtain ⟨ps, a, ha, rfl, hCe, hO, hB⟩ := hrel
    obtain ⟨N, hN⟩ : ∃ N, ((lOf s).drop a).length = N := ⟨_, rfl⟩
    obtain ⟨M, hM⟩ : ∃ M, lnZ ((lOf s).drop a) = M := ⟨_, rfl⟩
    obtain ⟨T, hT⟩ : ∃ T, kdZ ((lOf s).drop a) = T := ⟨_, rfl⟩
    have hNs : N = s.size - a := by rw [← hN, List.length_drop, hsz]
    have hNi : IntKind.i64.wrap ((s.size : Int) - (a : Int)) = (N : Int) := by rw [IntKind.wrap_i64]; omega
    have hMb : M < 4294967296 := by rw [← hM]; exact lnZ_lt fun x hx => lOf_lt s x (List.mem_of_mem_drop hx)
    have hlk : lkZ lim ((lOf s).drop a) = if N < 4 then 0 else if (M : Int) < 6 ∨ lim < (M : Int) then 2 else if N < 6 then 0 else if knB (T : Int) = false then 3 else if N < M then 0 else 1 := by unfold lkZ; rw [hN, hM, hT]
    have hpc : pcZ ((lOf s).drop a) = ⟨(T : Int), s.extract (a + 6) (a + M)⟩ := by unfold pcZ; rw [hT, hM, body_ext]
    have hno : lkZ lim ((lOf s).drop a) ≠ 1 → C = (ps, a, erZ (lkZ lim ((lOf s).drop a))) := fun hk => by rw [hCe, cutZ_no hk]; simp
    have c1 : 4 ≤ N → ∀ w, Calls Try.prog 32 #[.string s, .int .i64 (a : Int), .int .i64 4] w fun e w' => e = .returned (.int .i64 (M : Int)) ∧ w' = w := fun h w => by rw [← hM]; exact refnum_any s a 4 (by omega) (by decide) hs w
    have c2 : 6 ≤ N → ∀ w, Calls Try.prog 32 #[.string s, .int .i64 ((a : Int) + 4), .int .i64 2] w fun e w' => e = .returned (.int .i64 (T : Int)) ∧ w' = w := fun h w => by
      have := refnum_any s (a + 4) 2 (by omega) (by decide) hs w
      rw [← List.drop_drop] at this
      rw [← hT]
      exact this
    have F1 : True := trivial
    by_cases h1 : N < 4
    · rw [if_pos h1] at hlk
      rw [hlk] at hno
      have h1i : (N : Int) < 4 := by omega
      rw [hno (by decide)]
      clear hno hCe hlk c1 c2 hC hn
      go_wp2_with fail
      refine bodyPost_ret (v := .tuple #[_, .int .i64 (a : Int), .int .i64 0]) (by simp [results, Try.results16, go_sem]) rfl ⟨_, rfl, hO, hB⟩
    rw [if_neg h1] at hlk
    have h1i : ¬ (N : Int) < 4 := by omega
    replace c1 := c1 (by omega)
    by_cases h2 : (M : Int) < 6 ∨ lim < (M : Int)
    · rw [if_pos h2] at hlk
      rw [hlk] at hno
      rw [hno (by decide)]
      clear hno hCe hlk c2 hC hn
      by_cases h2a : (M : Int) < 6
      · go_wp2_with (go_at_call 32; clear F1; refine (c1 _).mono ?_; rintro _ _ ⟨rfl, rfl⟩)
        refine bodyPost_ret (v := .tuple #[_, .int .i64 (a : Int), .int .i64 240]) (by simp [results, Try.results16, go_sem]) rfl ⟨_, rfl, hO, hB⟩
      · have h2b : lim < (M : Int) := by omega
        clear h2
        go_wp2_with (go_at_call 32; clear F1; refine (c1 _).mono ?_; rintro _ _ ⟨rfl, rfl⟩)
        refine bodyPost_ret (v := .tuple #[_, .int .i64 (a : Int), .int .i64 240]) (by simp [results, Try.results16, go_sem]) rfl ⟨_, rfl, hO, hB⟩
    rw [if_neg h2] at hlk
    have h2a : ¬ (M : Int) < 6 := by omega
    have h2b : ¬ lim < (M : Int) := by omega
    clear h2 h1
    by_cases h3 : N < 6
    · rw [if_pos h3] at hlk
      rw [hlk] at hno
      rw [hno (by decide)]
      have h3i : (N : Int) < 6 := by omega
      clear hno hCe hlk c2 hC hn
      go_wp2_with (go_at_call 32; clear F1; refine (c1 _).mono ?_; rintro _ _ ⟨rfl, rfl⟩)
      refine bodyPost_ret (v := .tuple #[_, .int .i64 (a : Int), .int .i64 0]) (by simp [results, Try.results16, go_sem]) rfl ⟨_, rfl, hO, hB⟩
    rw [if_neg h3] at hlk
    have h3i : ¬ (N : Int) < 6 := by omega
    replace c2 := c2 (by omega)
    have hw4 : IntKind.i64.wrap ((a : Int) + 4) = (a : Int) + 4 := by rw [IntKind.wrap_i64]; omega
    clear h3
    by_cases h5 : knB (T : Int) = false
    · rw [if_pos h5] at hlk
      rw [hlk] at hno
      rw [hno (by decide)]
      clear hno hCe hlk hC hn
      go_wp2_with (first
        | (go_at_call 32; clear F1; refine (c1 _).mono ?_; rintro _ _ ⟨rfl, rfl⟩)
        | (go_at_call 32; refine (c2 _).mono ?_; rintro _ _ ⟨rfl, rfl⟩)
        | (go_at_call 33; refine (refknown_any _ _).mono ?_; rintro _ _ ⟨rfl, rfl⟩))
      refine bodyPost_ret (v := .tuple #[_, .int .i64 (a : Int), .int .i64 241]) (by simp [results, Try.results16, go_sem]) rfl ⟨_, rfl, hO, hB⟩
    rw [if_neg h5] at hlk
    replace h5 : knB (T : Int) = true := by simpa using h5
    by_cases h6 : N < M
    · rw [if_pos h6] at hlk
      rw [hlk] at hno
      rw [hno (by decide)]
      have h6i : (N : Int) < (M : Int) := by omega
      clear hno hCe hlk hC hn
      go_wp2_with (first
        | (go_at_call 32; clear F1; refine (c1 _).mono ?_; rintro _ _ ⟨rfl, rfl⟩)
        | (go_at_call 32; refine (c2 _).mono ?_; rintro _ _ ⟨rfl, rfl⟩)
        | (go_at_call 33; refine (refknown_any _ _).mono ?_; rintro _ _ ⟨rfl, rfl⟩))
      refine bodyPost_ret (v := .tuple #[_, .int .i64 (a : Int), .int .i64 0]) (by simp [results, Try.results16, go_sem]) rfl ⟨_, rfl, hO, hB⟩
    rw [if_neg h6] at hlk
    have h6i : ¬ (N : Int) < (M : Int) := by omega
    rw [cutZ_yes hlk, hpc, hM, List.drop_drop] at hCe
    have hn2 : ps.length + 1 ≤ 4398046511103 := by rw [hCe] at hn; simp only [List.length_append, List.length_cons] at hn; omega
    have hap := p_ap (p := ⟨(T : Int), s.extract (a + 6) (a + M)⟩) hO (by omega) hB.size
    have e1 : IntKind.i64.wrap ((a : Int) + 6) = ((a + 6 : Nat) : Int) := by rw [IntKind.wrap_i64]; omega
    have e2 : IntKind.i64.wrap ((a : Int) + (M : Int)) = ((a + M : Nat) : Int) := by rw [IntKind.wrap_i64]; omega
    have e3 : a + M ≤ s.size := by omega
    have e4 : a + 6 ≤ a + M := by omega
    clear hno hlk hC hn hpc hM hT hN
    go_wp2_with (first
      | (go_at_call 32; clear F1; refine (c1 _).mono ?_; rintro _ _ ⟨rfl, rfl⟩)
      | (go_at_call 32; refine (c2 _).mono ?_; rintro _ _ ⟨rfl, rfl⟩)
      | (go_at_call 33; refine (refknown_any _ _).mono ?_; rintro _ _ ⟨rfl, rfl⟩)
      | (at_builtin; go_must (refine (wpList_append_ex (by rfl) _ _ _ _ (by rfl) _ _ (by rfl) (by rfl) _ hap ?_)); rintro v' w' ⟨hO', hB', hk', hl'⟩))
    refine ⟨⟨ps ++ [⟨(T : Int), s.extract (a + 6) (a + M)⟩], a + M, by omega, by go_num, ?_, hO', hB.trans (hB'.mono (Nat.le_refl _))⟩, by simp [intOf]; omega⟩
    rw [hCe]
    simp [Nat.add_assoc]
end Go.Proofs.Ytnicdehbedcdpaa
