/- Where a text is refused: the place is none beyond its end. And P4.4 in all, as mathematics. -/
import Derived.Test.YtchfphakhmifmaaGreatDoorYB8
namespace Go.Proofs.YtchfphakhmifmaaGreatDoor
open Go.Lib Go

theorem fault_le (ok : Int → Bool) (s : ByteArray) : ∀ n a, (faultF ok s n a).2 ≤ s.size
  | 0, _ => Nat.zero_le _
  | n + 1, a => by
    rw [faultF]
    split
    · exact Nat.zero_le _
    · dsimp only
      split
      · show a ≤ _; omega
      · split
        · exact fault_le ok s n _
        · show a ≤ _; omega
theorem name_bad_le {s : ByteArray} {a e p : Nat} (ha : a ≤ s.size) (h : nameZ s a = .bad e p) : p ≤ s.size ∧ e ≠ 0 := by
  unfold nameZ at h
  split at h
  · injection h with h0 h; exact ⟨by omega, by omega⟩
  · split at h
    · cases h
    · injection h with h0 h; exact ⟨by omega, by omega⟩
theorem exp_bad_le {s : ByteArray} {a c e p : Nat} (h : expZ s a c = some (e, p)) : p ≤ s.size ∧ e ≠ 0 := by
  unfold expZ at h
  split at h
  · injection h with h; injection h with h0 h; exact ⟨by omega, by omega⟩
  · split at h
    · cases h
    · injection h with h; injection h with h0 h; exact ⟨by omega, by omega⟩
theorem plain_bad_le {v t : ByteArray} {q e p : Nat} (h : plainZ v q = (some (e, p), t)) : p ≤ q + v.size ∧ e ≠ 0 := by
  unfold plainZ at h
  split at h
  · injection h with h; cases h
  · rename_i hne
    injection h with h
    injection h with h
    injection h with h0 h
    have := une_place v
    exact ⟨by omega, by omega⟩
theorem value_bad_le {s : ByteArray} {a e p : Nat} (ha : a ≤ s.size) (h : valueZ s a = .bad e p) : p ≤ s.size ∧ e ≠ 0 := by
  have main : ∀ q : UInt8, a < s.size → valQ s a q = .bad e p → p ≤ s.size ∧ e ≠ 0 := by
    intro q ha h
    unfold valQ at h
    have hu := upN_le [60, q] s (a + 1) (by omega)
    generalize upN [60, q] s (a + 1) = u at h hu
    split at h
    · injection h with h0 h; exact ⟨by omega, by omega⟩
    · split at h
      · cases hp : plainZ (s.extract (a + 1) u) (a + 1) with
        | mk o t =>
          rw [hp] at h
          cases o with
          | none => cases h
          | some ep =>
            obtain ⟨e', p'⟩ := ep
            dsimp only at h
            injection h with h0 h
            have := plain_bad_le hp
            rw [size_ext s _ _ hu.2] at this
            exact ⟨by omega, by omega⟩
      · injection h with h0 h; exact ⟨by omega, by omega⟩
  unfold valueZ at h
  split at h
  · injection h with h0 h; exact ⟨by omega, by omega⟩
  · split at h
    · exact main 34 (by omega) h
    · split at h
      · exact main 39 (by omega) h
      · injection h with h0 h; exact ⟨by omega, by omega⟩
theorem step_bad_le {s : ByteArray} {f a e p : Nat} (hok : stOk s f a) (h : stepZ s f a = .bad e p) : p ≤ s.size ∧ e ≠ 0 := by
  unfold stOk at hok
  rcases hok with ⟨rfl, rfl, _⟩ | ⟨_, hok⟩
  · rw [stepZ_begin] at h
    unfold beginZ at h
    split at h
    · injection h with h0 h; exact ⟨by omega, by omega⟩
    · split at h
      · split at h <;> cases h
      · rename_i hne
        injection h with h0 h
        rw [← h, ← h0]
        exact ⟨fault_le xmlB s _ _, hne⟩
  · rcases hok with ⟨rfl, rfl⟩ | ⟨rfl, ha⟩ | ⟨rfl, ha, _⟩ | ⟨rfl, ha⟩ | ⟨rfl, ha⟩ | ⟨rfl, ha⟩ | ⟨rfl, ha⟩ | ⟨rfl, ha⟩ | ⟨rfl, ha⟩ | ⟨rfl, ha⟩
    · rw [stepZ_declaration] at h
      unfold declZ at h
      split at h
      · injection h with h0 h; exact ⟨by omega, by omega⟩
      · cases h
    · rw [stepZ_content] at h
      unfold contentZ at h
      split at h
      · cases h
      · split at h
        · split at h
          · cases h
          · split at h
            · cases h
            · split at h
              · injection h with h0 h; exact ⟨by omega, by omega⟩
              · cases h
        · cases h
    · rw [stepZ_text] at h
      unfold textZ at h
      have hu := upN_le [60] s a (by omega)
      generalize upN [60] s a = u at h hu
      cases hp : plainZ (s.extract a u) a with
      | mk o t =>
        rw [hp] at h
        cases o with
        | none => cases h
        | some ep =>
          obtain ⟨e', p'⟩ := ep
          dsimp only at h
          injection h with h0 h
          have := plain_bad_le hp
          rw [size_ext s _ _ hu.2] at this
          exact ⟨by omega, by omega⟩
    · rw [stepZ_comment] at h
      unfold commentZ at h
      cases hx : expZ s (a + 2) 45 with
      | some ep => rw [hx] at h; obtain ⟨e', p'⟩ := ep; injection h with h1 h2; subst h1; subst h2; exact exp_bad_le hx
      | none =>
        rw [hx] at h
        dsimp only at h
        cases hy : expZ s (a + 2 + 1) 45 with
        | some ep => rw [hy] at h; obtain ⟨e', p'⟩ := ep; injection h with h1 h2; subst h1; subst h2; exact exp_bad_le hy
        | none =>
          rw [hy] at h
          dsimp only at h
          have hy2 := expZ_none hy
          have hcc := comL_cases s (a + 2 + 1 + 1) (by omega)
          by_cases hc : (comL s (a + 2 + 1 + 1)).2.2 = true
          · rw [if_pos hc] at h
            have hl : a + 2 + 1 + 1 + (comL s (a + 2 + 1 + 1)).1.length + 2 ≤ s.size := by
              rcases hcc with h1 | h1
              · rw [hc] at h1; cases h1
              · exact h1.2
            by_cases h1 : s.size ≤ a + 2 + 1 + 1 + (comL s (a + 2 + 1 + 1)).1.length + 2
            · rw [if_pos h1] at h; injection h with h0 h; exact ⟨by omega, by omega⟩
            · rw [if_neg h1] at h
              by_cases h2 : ch s (a + 2 + 1 + 1 + (comL s (a + 2 + 1 + 1)).1.length + 2) = 62
              · rw [if_pos h2] at h; cases h
              · rw [if_neg h2] at h; injection h with h0 h; exact ⟨by omega, by omega⟩
          · rw [if_neg hc] at h; injection h with h0 h; exact ⟨by omega, by omega⟩
    · rw [stepZ_endTag] at h
      unfold endZ at h
      cases hn : nameZ s (a + 2) with
      | bad e' q => rw [hn] at h; injection h with h1 h2; subst h1; subst h2; exact name_bad_le (by omega) hn
      | val nm b1 =>
        rw [hn] at h
        dsimp only at h
        cases hx : expZ s (skN s b1) 62 with
        | some ep => rw [hx] at h; obtain ⟨e', p'⟩ := ep; injection h with h1 h2; subst h1; subst h2; exact exp_bad_le hx
        | none => rw [hx] at h; cases h
    · rw [stepZ_startTag] at h
      unfold startZ at h
      cases hn : nameZ s (a + 1) with
      | bad e' q => rw [hn] at h; injection h with h1 h2; subst h1; subst h2; exact name_bad_le (by omega) hn
      | val nm b1 => rw [hn] at h; cases h
    · rw [stepZ_inTag] at h
      have hk := skN_le s a ha
      unfold inTagZ at h
      split at h
      · injection h with h0 h; exact ⟨by omega, by omega⟩
      · split at h
        · cases h
        · split at h
          · cases h
          · split at h
            · cases h
            · injection h with h0 h; exact ⟨by omega, by omega⟩
    · rw [stepZ_tagEnd] at h
      cases h
    · rw [stepZ_emptyEnd] at h
      unfold emptyEndZ at h
      cases hx : expZ s (a + 1) 62 with
      | some ep => rw [hx] at h; obtain ⟨e', p'⟩ := ep; injection h with h1 h2; subst h1; subst h2; exact exp_bad_le hx
      | none => rw [hx] at h; cases h
    · rw [stepZ_attribute] at h
      unfold attrZ at h
      cases hn : nameZ s a with
      | bad e' q => rw [hn] at h; injection h with h1 h2; subst h1; subst h2; exact name_bad_le (by omega) hn
      | val nm b1 =>
        rw [hn] at h
        dsimp only at h
        have hb := nameZ_val hn
        have hk2 := skN_le s b1 hb.2.2
        cases hx : expZ s (skN s b1) 61 with
        | some ep => rw [hx] at h; obtain ⟨e', p'⟩ := ep; injection h with h1 h2; subst h1; subst h2; exact exp_bad_le hx
        | none =>
          rw [hx] at h
          dsimp only at h
          have hx2 := expZ_none hx
          have hk3 := skN_le s (skN s b1 + 1) (by omega)
          cases hva : valueZ s (skN s (skN s b1 + 1)) with
          | bad e' q => rw [hva] at h; injection h with h1 h2; subst h1; subst h2; exact value_bad_le hk3.2 hva
          | val vl c => rw [hva] at h; cases h
theorem run_bad_le {s : ByteArray} : ∀ {n : Nat} {f : Option Nat} {a e p : Nat}, okO s a f → runZ s n f a = .bad e p → p ≤ s.size ∧ e ≠ 0
  | _, none, _, _, _, _, h => by
    rw [runZ] at h
    cases h
  | 0, some _, _, _, _, _, h => by
    rw [runZ] at h
    cases h
  | n + 1, some f, a, e, p, hok, h => by
    have hgo := step_go s f a hok
    rw [runZ] at h
    cases hz : stepZ s f a with
    | bad e' p' =>
      rw [hz] at h
      injection h with h1 h2
      subst h1; subst h2
      exact step_bad_le hok hz
    | go nx b t =>
      rw [hz] at h hgo
      cases t with
      | some t => cases h
      | none =>
        dsimp only at h
        cases nx with
        | none =>
          cases n <;> (rw [runZ] at h; cases h)
        | some g => exact run_bad_le (f := some g) hgo.1 h
theorem toks_bad_le (s : ByteArray) : ∀ (n : Nat) (f : Option Nat) (a : Nat) (us : List Tok) (e p : Nat), okO s a f → toksF s n f a = (us, some (e, p)) → p ≤ s.size ∧ e ≠ 0
  | 0, _, _, _, _, _, _, h => by
    rw [toksF] at h
    cases h
  | n + 1, f, a, us, e, p, hok, h => by
    rw [toksF] at h
    cases hz : pieceZ s f a with
    | bad e' p' =>
      rw [hz] at h
      injection h with _ h
      injection h with h
      injection h with h1 h2
      subst h1; subst h2
      exact run_bad_le hok hz
    | end_ b => rw [hz] at h; cases h
    | told nx b t =>
      rw [hz] at h
      injection h with _ h
      exact toks_bad_le s n nx b (toksF s n nx b).1 e p (piece_told hok hz).2.2 (Prod.ext rfl h)
theorem toksN_bad_le {s : ByteArray} {us : List Tok} {e p : Nat} (hs : s.size ≤ 9223372036854775807) (h : toksN s = (us, some (e, p))) : p ≤ s.size ∧ e ≠ 0 :=
  toks_bad_le s (s.size + 1) (some 58) 0 us e p (show okO s 0 (some 58) from Or.inl ⟨rfl, rfl, hs⟩) h
theorem wr_ge {last : Int} {k : Nat} {nm vl : ByteArray} (f : Fits last k nm vl) : nm.size ≤ (wrB k nm vl).size ∧ vl.size ≤ (wrB k nm vl).size := by
  have he : ∀ attr, vl.size ≤ (escB attr vl).size := fun attr => by
    unfold escB
    rw [sOf_size, ← lOf_length]
    generalize lOf vl = l
    induction l with
    | nil => exact Nat.zero_le _
    | cons c l ih =>
      unfold escL at ih ⊢
      rw [List.flatMap_cons, List.length_append, List.length_cons]
      have := (escC_len attr c).2
      omega
  have h1 := he true
  have h2 := he false
  have hk := f.lt
  have cases : k = 0 ∨ k = 1 ∨ k = 2 ∨ k = 3 ∨ k = 4 ∨ k = 5 ∨ k = 6 ∨ k = 7 := by omega
  rw [← tl_len (wrB k nm vl)]
  rcases cases with rfl | rfl | rfl | rfl | rfl | rfl | rfl | rfl
  · rw [wl0, f.v0 (by decide), size_E0]; simp only [List.length_cons, tl_len]; omega
  · rw [wl1]; simp only [List.length_cons, List.length_append, List.length_nil, tl_len]; omega
  · rw [f.n0 (by decide), f.v0 (by decide), size_E0]; omega
  · rw [f.n0 (by decide), f.v0 (by decide), size_E0]; omega
  · rw [wl4, f.v0 (by decide), size_E0]; simp only [List.length_cons, List.length_append, List.length_nil, tl_len]; omega
  · rw [wl5, f.n0 (by decide), size_E0, tl_len]; omega
  · rw [wl6, f.n0 (by decide), size_E0]; simp only [List.length_cons, List.length_append, List.length_nil, tl_len]; omega
  · rw [wl7, f.n0 (by decide), size_E0]; simp only [List.length_cons, List.length_append, List.length_nil, tl_len]; omega
theorem chn_small : ∀ {ts : List IT} {last : Int}, Chn last ts → ∀ t ∈ ts, t.nm.size ≤ (flatL ts).length ∧ t.vl.size ≤ (flatL ts).length
  | [], _, _, _, h => by cases h
  | t :: ts, last, hc, u, h => by
    have e : flatL (t :: ts) = lOf (wrB t.k.toNat t.nm t.vl) ++ flatL ts := by unfold flatL; rw [List.flatMap_cons]
    rw [e, List.length_append, lOf_length]
    rcases List.mem_cons.1 h with rfl | h
    · obtain ⟨k, hk, f⟩ := fits_of hc.1
      have := wr_ge f
      rw [hk, Int.toNat_natCast]
      omega
    · have := chn_small hc.2 u h
      omega
theorem sm_same : ∀ {us : List Tok} {ts : List IT}, Sm us ts → us.length = ts.length
  | [], [], _ => rfl
  | _ :: us, _ :: ts, h => by
    rw [List.length_cons, List.length_cons, sm_same h.2.2.2]
  | [], _ :: _, h => absurd h id
  | _ :: _, [], h => absurd h id
theorem rs_get {n : Nat} : ∀ {us : List Tok} {lo i : Nat} {t : Tok}, Rs n lo us → us[i]? = some t → lo ≤ t.p ∧ t.p < n
  | [], _, _, _, _, h => by cases h
  | u :: us, lo, 0, t, hr, h => by
    cases h
    exact ⟨hr.1, hr.2.1⟩
  | u :: us, lo, i + 1, t, hr, h => by
    have := rs_get hr.2.2 (show us[i]? = some t from h)
    have h1 := hr.1
    omega
theorem rs_two {n : Nat} : ∀ {us : List Tok} {lo i : Nat} {t u : Tok}, Rs n lo us → us[i]? = some t → us[i + 1]? = some u → t.p < u.p
  | [], _, _, _, _, _, h, _ => by cases h
  | x :: us, lo, 0, t, u, hr, h, h2 => by
    cases h
    have := rs_get hr.2.2 (show us[0]? = some u from h2)
    omega
  | x :: us, lo, i + 1, t, u, hr, h, h2 => rs_two hr.2.2 (show us[i]? = some t from h) (show us[i + 1]? = some u from h2)
theorem toks_small {s : ByteArray} {us : List Tok} (h : toksN s = (us, none)) : ∀ t ∈ us.map Tok.it, t.nm.size ≤ 16777216 ∧ t.vl.size ≤ 16777216 := by
  obtain ⟨hc, hl⟩ := fwd_all h
  have hs := (toks_ok h).1
  intro t ht
  have := chn_small hc t ht
  omega
/-- P4.4, the second half: what is read prints, unless that would be too long; and is read again as the same. -/
theorem again_all {s : ByteArray} {us : List Tok} (h : toksN s = (us, none)) :
    (prZ (us.map Tok.it) 0 (-1) [] = ([], 45, us.length) ∧ 100000 < s.size) ∨ ∃ T vs, prZ (us.map Tok.it) 0 (-1) [] = (T, 0, 0) ∧ toksN (sOf T) = (vs, none) ∧ Sm vs (us.map Tok.it) := by
  obtain ⟨hc, hl⟩ := fwd_all h
  have hp := pr_of (us.map Tok.it) 0 (-1) [] hc
  rw [List.length_nil, Nat.zero_add, List.nil_append, List.length_map] at hp
  by_cases hz : (flatL (us.map Tok.it)).length ≤ 1048576
  · right
    have hT := hp.1 hz
    obtain ⟨vs, h1, h2, _⟩ := back_all hT
    exact ⟨_, vs, hT, h1, h2⟩
  · left
    have := hp.2 (by omega)
    rw [Nat.zero_add] at this
    exact ⟨this, by omega⟩
end Go.Proofs.YtchfphakhmifmaaGreatDoor
