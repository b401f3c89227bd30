/- What is read is printed: the mathematics. -/
import Derived.Test.YtchfphakhmifmaaGreatDoorYB6
namespace Go.Proofs.YtchfphakhmifmaaGreatDoor
open Go.Lib Go

theorem vx_lt {l : List Nat} (h : VX l) : ∀ b ∈ l, b < 256 := by
  obtain ⟨cs, hcs, rfl⟩ := h
  intro b hb
  obtain ⟨c, hc, hm⟩ := List.mem_flatMap.1 hb
  have := xml_bd (hcs c hc)
  unfold encN at hm
  split at hm
  · simp at hm; omega
  · split at hm
    · simp at hm; omega
    · split at hm <;> (simp at hm; omega)
theorem vx_from {s : ByteArray} {q : Nat} (hv : VX (lOf s)) (hq : q < s.size) (hc : ch s q < 128) : VX ((lOf s).drop (q + 1)) ∧ VX ((lOf s).drop q) := by
  have e : lOf s = (lOf s).take q ++ ch s q :: (lOf s).drop (q + 1) := by
    rw [← lof_cons s q hq, List.take_append_drop]
  rw [e] at hv
  obtain ⟨_, h2, h3⟩ := vx_split hv hc
  refine ⟨h3, ?_⟩
  rw [lof_cons s q hq]
  exact vx_app (vx_one hc h2) h3
theorem vx_mid {s : ByteArray} {a e : Nat} (hv : VX ((lOf s).drop a)) (h1 : a ≤ e) (h2 : e = s.size ∨ e < s.size ∧ ch s e < 128) : VX (lOf (s.extract a e)) := by
  rw [lOf_extract]
  rcases h2 with rfl | ⟨h2, h3⟩
  · rw [List.take_of_length_le (by rw [List.length_drop, lOf_length]; omega)]
    exact hv
  · have e1 : (lOf s).drop a = ((lOf s).drop a).take (e - a) ++ ch s e :: (lOf s).drop (e + 1) := by
      rw [← lof_cons s e h2]
      conv => lhs; rw [← List.take_append_drop (e - a) ((lOf s).drop a)]
      rw [List.drop_drop, show a + (e - a) = e by omega]
    rw [e1] at hv
    exact (vx_split hv h3).1
theorem une_zero (s : ByteArray) : ∀ (n a : Nat) (acc : List Nat), (uneF s n a acc).2.1 = 0 → uneF s n a acc = ((uneF s n a acc).1, 0, 0)
  | 0, _, _, _ => rfl
  | n + 1, a, acc, h => by
    rw [uneF] at h ⊢
    split
    · rfl
    · rename_i h1
      rw [if_neg h1] at h
      split
      · rename_i h2
        rw [if_pos h2] at h
        split
        · rename_i M b he
          rw [he] at h
          exact une_zero s n b _ h
        · rename_i he
          rw [he] at h
          exact absurd (show (22 : Nat) = 0 from h) (by decide)
      · rename_i h2
        rw [if_neg h2] at h
        exact une_zero s n _ _ h
theorem plain_inv {v t : ByteArray} {p : Nat} (h : plainZ v p = (none, t)) (hv : VX (lOf v)) : VX (lOf t) ∧ t.size ≤ v.size ∧ (0 < v.size → 0 < t.size) := by
  unfold plainZ at h
  split at h
  · rename_i h0
    injection h with _ h1
    have hz := une_zero v _ _ _ h0
    have hu := une_vx v (v.size + 1) 0 [] (uneN v).1 (by omega) (Nat.zero_le _) hz (by rw [List.nil_append, List.drop_zero]; exact hv)
    have e : lOf t = (uneN v).1 := by rw [← h1, lOf_sOf _ (vx_lt hu.1)]
    have e2 : t.size = (uneN v).1.length := by rw [← e, lOf_length]
    rw [e, e2]
    refine ⟨hu.1, ?_, fun h => ?_⟩
    · have := hu.2.1; simp at this; omega
    · have := hu.2.2.2 h; simpa using this
  · cases h
theorem name_inv {s nm : ByteArray} {a b : Nat} (ha : a ≤ s.size) (h : nameZ s a = .val nm b) : xmlNameB nm = true ∧ b = a + nm.size ∧ 0 < nm.size ∧ b ≤ s.size ∧ ch s (b - 1) < 128 := by
  unfold nameZ at h
  split at h
  · cases h
  · split at h
    · rename_i h1 h2
      injection h with h3 h4
      have hu := upN_le NEb.data.toList s a ha
      rw [h3] at h2
      rw [h4] at hu h3
      have hz : nm.size = b - a := by rw [← h3]; exact size_ext s a b hu.2
      have hp := (name_ch h2).1
      refine ⟨h2, by omega, hp, hu.2, ?_⟩
      have hc := nxml_bd ((name_ch h2).2 (nm.size - 1) (by omega))
      have he : ch nm (nm.size - 1) = ch s (b - 1) := by
        rw [← h3, ch_ext s a b _ (by rw [h3]; omega), h3]
        congr 1
        omega
      rw [he] at hc
      omega
    · cases h
theorem value_inv {s vl : ByteArray} {a c : Nat} (hv : VX (lOf s)) (h : valueZ s a = .val vl c) : VX (lOf vl) ∧ a + 2 + vl.size ≤ c ∧ c ≤ s.size ∧ ch s (c - 1) < 128 := by
  have main : ∀ q : UInt8, q.toNat < 128 → a < s.size → ch s a = q.toNat → valQ s a q = .val vl c → VX (lOf vl) ∧ a + 2 + vl.size ≤ c ∧ c ≤ s.size ∧ ch s (c - 1) < 128 := by
    intro q hq ha hc h
    unfold valQ at h
    have hu := upN_le [60, q] s (a + 1) (by omega)
    generalize upN [60, q] s (a + 1) = e at h hu
    split at h
    · cases h
    · rename_i h1
      split at h
      · rename_i h2
        cases hp : plainZ (s.extract (a + 1) e) (a + 1) with
        | mk o t =>
          rw [hp] at h
          cases o with
          | none =>
            dsimp only at h
            injection h with h3 h4
            have hmid := vx_mid (vx_from hv ha (by omega)).1 hu.1 (Or.inr ⟨by omega, by omega⟩)
            have hpl := plain_inv hp hmid
            rw [size_ext s _ _ hu.2] at hpl
            rw [← h3, ← h4]
            refine ⟨hpl.1, by omega, by omega, ?_⟩
            rw [show e + 1 - 1 = e by omega, h2]
            exact hq
          | some ep => cases h
      · cases h
  unfold valueZ at h
  split at h
  · cases h
  · split at h
    · rename_i h1 h2
      exact main 34 (by decide) (by omega) h2 h
    · split at h
      · rename_i h1 h2 h3
        exact main 39 (by decide) (by omega) h3 h
      · cases h
theorem vx_E0 : VX (lOf E0) := vx_nil
theorem wr_size {k : Nat} {nm vl : ByteArray} (hk : k < 8) : (wrB k nm vl).size ≤ (if k = 0 then nm.size + 1 else if k = 1 then nm.size + 6 * vl.size + 4 else if k = 2 then 1 else if k = 3 then 2 else if k = 4 then nm.size + 3 else if k = 5 then 6 * vl.size else vl.size + 7) := by
  have he : ∀ attr, (escB attr vl).size ≤ 6 * vl.size := fun attr => by
    have := escL_len attr (lOf vl)
    rw [lOf_length] at this
    unfold escB
    rw [sOf_size]
    exact this
  rw [← tl_len]
  have cases : k = 0 ∨ k = 1 ∨ k = 2 ∨ k = 3 ∨ k = 4 ∨ k = 5 ∨ k = 6 ∨ k = 7 := by omega
  have h1 := he true
  have h2 := he false
  rcases cases with rfl | rfl | rfl | rfl | rfl | rfl | rfl | rfl
  · rw [wl0]; simp only [List.length_cons, tl_len]; exact Nat.le_refl _
  · rw [wl1]; simp only [List.length_cons, List.length_append, List.length_nil, tl_len]; show _ ≤ nm.size + 6 * vl.size + 4; omega
  · rw [wl2]; exact Nat.le_refl _
  · rw [wl3]; exact Nat.le_refl _
  · rw [wl4]; simp only [List.length_cons, List.length_append, List.length_nil, tl_len]; show _ ≤ nm.size + 3; omega
  · rw [wl5, tl_len]; exact h2
  · rw [wl6]; simp only [List.length_cons, List.length_append, List.length_nil, tl_len]; exact Nat.le_refl _
  · rw [wl7]; simp only [List.length_cons, List.length_append, List.length_nil, tl_len]; exact Nat.le_refl _
/-- What a piece that is read is. -/
structure Got (s : ByteArray) (last : Int) (a : Nat) (nx : Option Nat) (b : Nat) (t : Tok) : Prop where
  f : Fits last t.k t.nm t.vl
  nx : nx = some (stN (t.k : Int))
  vx : VX ((lOf s).drop b)
  t5 : t.k = 5 → b = s.size ∨ ch s b = 60
  sz : (wrB t.k t.nm t.vl).size ≤ 6 * (b - a)
  le : b ≤ s.size
theorem fit2 {last : Int} (hi : inT last = true) : Fits last 2 E0 E0 := ⟨by decide, fun _ => rfl, fun _ => rfl, hi.symm, fun hh => absurd hh (by decide), fun hh => absurd hh (by decide), fun hh => absurd hh (by decide), vx_E0, fun hh => absurd hh (by decide), fun hh => absurd hh (by decide)⟩
theorem fit3 {last : Int} (hi : inT last = true) : Fits last 3 E0 E0 := ⟨by decide, fun _ => rfl, fun _ => rfl, hi.symm, fun hh => absurd hh (by decide), fun hh => absurd hh (by decide), fun hh => absurd hh (by decide), vx_E0, fun hh => absurd hh (by decide), fun hh => absurd hh (by decide)⟩
theorem fit1 {last : Int} {nm vl : ByteArray} (hi : inT last = true) (hn : xmlNameB nm = true) (hv : VX (lOf vl)) : Fits last 1 nm vl := ⟨by decide, fun hh => absurd hh (by decide), fun hh => absurd hh (by decide), hi.symm, fun hh => absurd hh (by decide), fun hh => absurd hh (by decide), fun _ => hn, hv, fun hh => absurd hh (by decide), fun hh => absurd hh (by decide)⟩
theorem fit0 {last : Int} {nm : ByteArray} (hi : inT last = false) (hn : xmlNameB nm = true) : Fits last 0 nm E0 := ⟨by decide, fun hh => absurd hh (by decide), fun _ => rfl, hi.symm, fun hh => absurd hh (by decide), fun hh => absurd hh (by decide), fun _ => hn, vx_E0, fun hh => absurd hh (by decide), fun hh => absurd hh (by decide)⟩
theorem fit4 {last : Int} {nm : ByteArray} (hi : inT last = false) (hn : xmlNameB nm = true) : Fits last 4 nm E0 := ⟨by decide, fun hh => absurd hh (by decide), fun _ => rfl, hi.symm, fun hh => absurd hh (by decide), fun hh => absurd hh (by decide), fun _ => hn, vx_E0, fun hh => absurd hh (by decide), fun hh => absurd hh (by decide)⟩
theorem fit5 {last : Int} {vl : ByteArray} (hi : inT last = false) (hv : VX (lOf vl)) (h0 : 0 < vl.size) (h5 : last ≠ 5) : Fits last 5 E0 vl := ⟨by decide, fun _ => rfl, fun hh => absurd hh (by decide), hi.symm, fun hh => absurd hh (by decide), fun _ => ⟨h0, h5⟩, fun hh => absurd hh (by decide), hv, fun hh => absurd hh (by decide), fun hh => absurd hh (by decide)⟩
theorem fit6 {last : Int} {vl : ByteArray} (hi : inT last = false) (hv : VX (lOf vl)) (hc : comB vl = true) : Fits last 6 E0 vl := ⟨by decide, fun _ => rfl, fun hh => absurd hh (by decide), hi.symm, fun hh => absurd hh (by decide), fun hh => absurd hh (by decide), fun hh => absurd hh (by decide), hv, fun _ => hc, fun hh => absurd hh (by decide)⟩
theorem fit7 {vl : ByteArray} (hv : VX (lOf vl)) (hc : dclB vl = true) : Fits (-1) 7 E0 vl := ⟨by decide, fun _ => rfl, fun hh => absurd hh (by decide), by decide, fun _ => rfl, fun hh => absurd hh (by decide), fun hh => absurd hh (by decide), hv, fun hh => absurd hh (by decide), fun _ => hc⟩
theorem got_mk {s : ByteArray} {last : Int} {a : Nat} {nx : Option Nat} {b k p : Nat} {nm vl : ByteArray} (f : Fits last k nm vl) (hn : nx = some (stN (k : Int))) (hv : VX ((lOf s).drop b)) (h5 : k = 5 → b = s.size ∨ ch s b = 60) (hz : (wrB k nm vl).size ≤ 6 * (b - a)) (hb : b ≤ s.size) : Got s last a nx b ⟨k, nm, vl, p⟩ := ⟨f, hn, hv, h5, hz, hb⟩
theorem after {s : ByteArray} {b : Nat} (hv : VX (lOf s)) (h0 : 0 < b) (hb : b ≤ s.size) (hc : ch s (b - 1) < 128) : VX ((lOf s).drop b) := by
  have := (vx_from hv (q := b - 1) (by omega) hc).1
  rwa [show b - 1 + 1 = b by omega] at this
theorem got_inTag {s : ByteArray} {last : Int} {a : Nat} {nx : Option Nat} {b : Nat} {t : Tok} (hv : VX (lOf s)) (ha : a ≤ s.size) (hi : inT last = true) (h : pieceZ s (some 135) a = .told nx b t) : Got s last a nx b t := by
  replace h : runZ s 2 (some 135) a = .told nx b t := h
  rw [runZ, stepZ_inTag] at h
  have hk := skN_le s a ha
  unfold inTagZ at h
  generalize skN s a = p at h hk
  split at h
  · rename_i e1 e2; cases h
  · rename_i e1 e2
    cases h
    split at e2
    · cases e2
    · split at e2
      · cases e2
      · split at e2
        · cases e2
        · split at e2 <;> cases e2
  · rename_i nx' b' e2
    split at e2
    · cases e2
    · split at e2
      · rename_i h1 h2
        injection e2 with e3 e4
        subst e3; subst e4
        rw [runZ, stepZ_tagEnd] at h
        simp only [tagEndZ] at h
        injection h with h3 h4 h5
        subst h3; subst h4; subst h5
        refine got_mk (fit2 hi) rfl (vx_from hv (by omega) (by omega)).1 (fun hh => absurd hh (by decide)) ?_ (by omega)
        show 1 ≤ 6 * (p + 1 - a)
        omega
      · split at e2
        · rename_i h1 h2 h3
          injection e2 with e3 e4
          subst e3; subst e4
          rw [runZ, stepZ_emptyEnd] at h
          unfold emptyEndZ at h
          cases hx : expZ s (p + 1) 62 with
          | some ep => rw [hx] at h; cases h
          | none =>
            rw [hx] at h
            have hx2 := expZ_none hx
            injection h with h3 h4 h5
            subst h3; subst h4; subst h5
            refine got_mk (fit3 hi) rfl (vx_from hv hx2.1 (by omega)).1 (fun hh => absurd hh (by decide)) ?_ (by omega)
            show 2 ≤ 6 * (p + 1 + 1 - a)
            omega
        · split at e2
          · rename_i h1 h2 h3 h4
            injection e2 with e3 e4
            subst e3; subst e4
            rw [runZ, stepZ_attribute] at h
            unfold attrZ at h
            cases hn : nameZ s p with
            | bad e q => rw [hn] at h; cases h
            | val nm b1 =>
              rw [hn] at h
              dsimp only at h
              have hn2 := name_inv hk.2 hn
              have hk2 := skN_le s b1 hn2.2.2.2.1
              cases hx : expZ s (skN s b1) 61 with
              | some ep => rw [hx] at h; cases h
              | none =>
                rw [hx] at h
                dsimp only at h
                have hx2 := expZ_none hx
                have hk3 := skN_le s (skN s b1 + 1) (by omega)
                cases hva : valueZ s (skN s (skN s b1 + 1)) with
                | bad e q => rw [hva] at h; cases h
                | val vl c =>
                  rw [hva] at h
                  dsimp only at h
                  have hva2 := value_inv hv hva
                  injection h with h3 h4 h5
                  subst h3; subst h4; subst h5
                  have hw := wr_size (k := 1) (nm := nm) (vl := vl) (by decide)
                  rw [if_neg (by decide), if_pos rfl] at hw
                  refine got_mk (fit1 hi hn2.1 hva2.1) rfl (after hv (by omega) hva2.2.2.1 hva2.2.2.2) (fun hh => absurd hh (by decide)) ?_ hva2.2.2.1
                  show (wrB 1 nm vl).size ≤ 6 * (c - a)
                  omega
          · cases e2
end Go.Proofs.YtchfphakhmifmaaGreatDoor
