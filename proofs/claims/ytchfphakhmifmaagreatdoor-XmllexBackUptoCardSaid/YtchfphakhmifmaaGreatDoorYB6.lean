/- What is printed is read as the pieces. -/
import Derived.Test.YtchfphakhmifmaaGreatDoorYB5
namespace Go.Proofs.YtchfphakhmifmaaGreatDoor
open Go.Lib Go

theorem lof_esc (attr : Bool) (vl : ByteArray) : lOf (escB attr vl) = escL attr (lOf vl) := by
  unfold escB
  exact lOf_sOf _ fun b hb => (esc_clean attr (lOf vl) (lOf_lt vl) b hb).1
theorem lof_li (s : ByteArray) : lOf s = (li s).map UInt8.toNat := rfl
theorem wr_vx {last : Int} {k : Nat} {nm vl : ByteArray} (f : Fits last k nm vl) : VX (lOf (wrB k nm vl)) := by
  have hk := f.lt
  have hv := f.vx
  have cases : k = 0 ∨ k = 1 ∨ k = 2 ∨ k = 3 ∨ k = 4 ∨ k = 5 ∨ k = 6 ∨ k = 7 := by omega
  have one : ∀ l : List Nat, (∀ c ∈ l, c < 128 ∧ xmlB (c : Int) = true) → VX l := fun l h => vx_all h
  rcases cases with rfl | rfl | rfl | rfl | rfl | rfl | rfl | rfl
  · have hn := name_xml (f.nm (by decide))
    show VX (lOf (⟨#[60]⟩ ++ nm))
    rw [lOf_append]
    exact vx_app (one [60] (by decide)) hn
  · have hn := name_xml (f.nm (by decide))
    show VX (lOf (⟨#[32]⟩ ++ nm ++ ⟨#[61, 34]⟩ ++ escB true vl ++ ⟨#[34]⟩))
    rw [lOf_append, lOf_append, lOf_append, lOf_append, lof_esc]
    exact vx_app (vx_app (vx_app (vx_app (one [32] (by decide)) hn) (one [61, 34] (by decide))) (esc_vx hv)) (one [34] (by decide))
  · exact one [62] (by decide)
  · exact one [47, 62] (by decide)
  · have hn := name_xml (f.nm (by decide))
    show VX (lOf (⟨#[60, 47]⟩ ++ nm ++ ⟨#[62]⟩))
    rw [lOf_append, lOf_append]
    exact vx_app (vx_app (one [60, 47] (by decide)) hn) (one [62] (by decide))
  · show VX (lOf (escB false vl))
    rw [lof_esc]
    exact esc_vx hv
  · show VX (lOf (⟨#[60, 33, 45, 45]⟩ ++ vl ++ ⟨#[45, 45, 62]⟩))
    rw [lOf_append, lOf_append]
    exact vx_app (vx_app (one [60, 33, 45, 45] (by decide)) hv) (one [45, 45, 62] (by decide))
  · show VX (lOf (bXML ++ vl ++ bSHUT))
    rw [lOf_append, lOf_append]
    exact vx_app (vx_app (one [60, 63, 120, 109, 108] (by decide)) hv) (one [63, 62] (by decide))
theorem flat_vx : ∀ {ts : List IT} {last : Int}, Chn last ts → VX (flatL ts)
  | [], _, _ => vx_nil
  | t :: ts, last, h => by
    obtain ⟨k, hk, f⟩ := fits_of h.1
    have e : flatL (t :: ts) = lOf (wrB t.k.toNat t.nm t.vl) ++ flatL ts := by unfold flatL; rw [List.flatMap_cons]
    rw [e, hk, Int.toNat_natCast]
    exact vx_app (wr_vx f) (flat_vx h.2)
theorem fl_flat : ∀ ts : List IT, (fl ts).map UInt8.toNat = flatL ts
  | [] => rfl
  | t :: ts => by
    have e : flatL (t :: ts) = lOf (wrB t.k.toNat t.nm t.vl) ++ flatL ts := by unfold flatL; rw [List.flatMap_cons]
    rw [fl_cons, List.map_append, fl_flat ts, e]
    rfl
theorem flat_fl (ts : List IT) : li (sOf (flatL ts)) = fl ts := by
  have h := congrArg li (sOf_lOf (bs (fl ts)))
  rw [show li (bs (fl ts)) = _ from bs_list _] at h
  rw [← h, lof_li, show li (bs (fl ts)) = _ from bs_list _, fl_flat]
theorem toks_same {s : ByteArray} {f g : Option Nat} {a b : Nat} (h : pieceZ s f a = pieceZ s g b) : toksZ s f a = toksZ s g b := by
  unfold toksZ
  simp only [toksF, h]
theorem begin_content {s : ByteArray} (hs : s.size ≤ 1048576) (hv : VX (lOf s)) (hp : Lib.hasPrefix s.data.toList bXML.data.toList = false) : toksN s = toksZ s (some 83) 0 := by
  have hz : beginZ s = .go (some 83) 0 none := by
    unfold beginZ
    rw [if_neg (by omega), if_pos ((chars_iff s).2 hv), if_neg (by rw [hp]; decide)]
  apply toks_same
  show runZ s 3 _ 0 = runZ s 2 _ 0
  rw [runZ, stepZ_begin, hz]
theorem begin_decl {s : ByteArray} (hs : s.size ≤ 1048576) (hv : VX (lOf s)) (hp : Lib.hasPrefix s.data.toList bXML.data.toList = true) : pieceZ s (some 58) 0 = match declZ s with
    | .bad e p => .bad e p
    | .go nx b (some t) => .told nx b t
    | .go nx b none => runZ s 1 nx b := by
  have hz : beginZ s = .go (some 82) 0 none := by
    unfold beginZ
    rw [if_neg (by omega), if_pos ((chars_iff s).2 hv), if_pos hp]
  show runZ s 3 _ 0 = _
  rw [runZ, stepZ_begin, hz]
  dsimp only
  rw [runZ, stepZ_declaration]
  rfl
theorem ok_begin {s : ByteArray} (hs : s.size ≤ 1048576) : okO s 0 (some 58) := by
  show stOk s _ 0
  unfold stOk
  left
  exact ⟨rfl, rfl, by omega⟩
theorem chn_two {ts : List IT} (h : Chn (-1) ts) (h7 : ∀ t r, ts = t :: r → t.k ≠ 7) : Chn 2 ts := by
  cases ts with
  | nil => exact (show inT 2 = false by decide)
  | cons t ts =>
    obtain ⟨k, hk, f⟩ := fits_of h.1
    have hk7 : k ≠ 7 := fun hh => h7 t ts rfl (by rw [hk, hh]; rfl)
    refine ⟨fits_put hk ⟨f.lt, f.n0, f.v0, f.tag.trans (by decide), fun hh => absurd hh hk7, fun hh => ⟨(f.t5 hh).1, by decide⟩, f.nm, f.vx, f.c6, f.c7⟩, h.2⟩
theorem no_decl {ts : List IT} (h : Chn 2 ts) : Lib.hasPrefix (fl ts) bXML.data.toList = false := by
  cases ts with
  | nil => rfl
  | cons t ts =>
    obtain ⟨k, hk, f⟩ := fits_of h.1
    have ht : shT k = false := f.tag
    have hk3 : ¬ (k = 1 ∨ k = 2 ∨ k = 3) := of_decide_eq_false ht
    have h7 : k ≠ 7 := fun hh => absurd (f.d hh) (by decide)
    have h8 := f.lt
    have cs : k = 0 ∨ k = 4 ∨ k = 5 ∨ k = 6 := by omega
    rw [fl_cons]
    unfold wL Lib.hasPrefix
    rw [hk, Int.toNat_natCast]
    show List.isPrefixOf [60, 63, 120, 109, 108] _ = false
    rcases cs with rfl | rfl | rfl | rfl
    · obtain ⟨b, r, e, hb⟩ := name_cons (f.nm (by decide))
      rw [wl0, e]
      have : ((63 : UInt8) == b) = false := byte_ne (by have := hb.2.2.2.2.2.2; exact fun hh => this (hh.symm))
      simp [List.isPrefixOf, this]
    · rw [wl4]
      rfl
    · have hne := esc_ne (attr := false) (f.t5 rfl).1
      obtain ⟨c, r, e⟩ := List.exists_cons_of_ne_nil hne
      have hc : c.toNat ≠ 60 := (esc_byte false t.vl (by rw [e]; simp)).1
      have : ((60 : UInt8) == c) = false := byte_ne (fun hh => hc hh.symm)
      rw [wl5, e]
      simp [List.isPrefixOf, this]
    · rw [wl6]
      rfl
/-- P4.4, the first half: what Print makes of pieces, Tokens reads as these, rising in places. -/
theorem back_all {ts : List IT} {T : List Nat} {p : Nat} (h : prZ ts 0 (-1) [] = (T, 0, p)) : ∃ us, toksN (sOf T) = (us, none) ∧ Sm us ts ∧ Rs (sOf T).size 0 us := by
  obtain ⟨hc, hT, hl⟩ := pr_ok ts 0 (-1) [] T p h
  rw [List.nil_append] at hT
  subst hT
  have hs : (sOf (flatL ts)).size ≤ 1048576 := by rw [sOf_size]; exact hl
  have hli : li (sOf (flatL ts)) = fl ts := flat_fl ts
  have hv : VX (lOf (sOf (flatL ts))) := by
    rw [lof_li, hli, fl_flat]
    exact flat_vx hc
  generalize sOf (flatL ts) = s at hs hli hv
  by_cases h7 : ∃ t r, ts = t :: r ∧ t.k = 7
  · obtain ⟨t, r, rfl, hk⟩ := h7
    obtain ⟨k, hk2, f⟩ := fits_of hc.1
    have hk7 : k = 7 := by omega
    subst hk7
    rw [fl_cons] at hli
    unfold wL at hli
    rw [hk2, Int.toNat_natCast] at hli
    have hN : Dc (li (bXML ++ t.vl ++ bSHUT)) [] := by
      have hd := of_decide_eq_true (f.c7 rfl)
      have hz : ¬ declN (bXML ++ t.vl ++ bSHUT) = 0 := by
        rw [hd, ByteArray.size_append, ByteArray.size_append]
        show ¬ 5 + _ + 2 = 0
        omega
      obtain ⟨r0, hdc, he⟩ := decl_to hz
      have : r0 = [] := List.length_eq_zero_iff.1 (by omega)
      rwa [this] at hdc
    have hS : Dc (li s) (fl r) := by
      obtain ⟨x1, x2, x3, b, e, g1, g2, g3, hb⟩ := hN
      refine ⟨x1, x2, x3, b, ?_, g1, g2, g3, hb⟩
      rw [hli, show (wrB 7 t.nm t.vl).data.toList = li (bXML ++ t.vl ++ bSHUT) from rfl, e]
      simp
    have hD := decl_of hS
    have hlen : declN s = (wrB 7 t.nm t.vl).data.toList.length := by
      have := congrArg List.length hli
      rw [tl_len, List.length_append] at this
      omega
    have h7l : (wrB 7 t.nm t.vl).data.toList.length = t.vl.size + 7 := by
      rw [wl7]
      simp only [List.length_cons, List.length_append, tl_len, List.length_nil]
    have hpre : Lib.hasPrefix s.data.toList bXML.data.toList = true := by
      show List.isPrefixOf [60, 63, 120, 109, 108] (li s) = true
      rw [hli, wl7]
      simp [List.isPrefixOf]
    have hext : s.extract 5 (declN s - 2) = t.vl := by
      have hd5 : Dr s 5 = t.vl.data.toList ++ ([63, 62] ++ fl r) := by
        unfold Dr
        rw [show s.data.toList = _ from hli, wl7]
        simp
      have := dr_ext hd5
      rwa [show 5 + t.vl.size = declN s - 2 by omega] at this
    have hp : pieceZ s (some 58) 0 = .told (some 83) (declN s) ⟨7, E0, t.vl, 0⟩ := by
      rw [begin_decl hs hv hpre]
      have hz : declZ s = .go (some 83) (declN s) (some ⟨7, E0, t.vl, 0⟩) := by
        unfold declZ
        rw [if_neg hD.2, hext]
      rw [hz]
    have hc2 := hc.2
    rw [hk2] at hc2
    obtain ⟨us, e, sm, rs⟩ := back_main s hs r 7 (declN s) hc2 (by decide) (by omega) (by unfold Dr; rw [show s.data.toList = _ from hli, hlen, List.drop_left])
    refine ⟨⟨7, E0, t.vl, 0⟩ :: us, ?_, ⟨hk2.symm, (f.n0 (by decide)).symm, rfl, sm⟩, Nat.zero_le _, by show 0 < s.size; omega, Rs.le rs (by show 0 + 1 ≤ _; omega)⟩
    unfold toksN
    rw [toksZ_told (ok_begin hs) hp]
    rw [show toksZ s (some 83) (declN s) = (us, none) from e]
  · have hc2 := chn_two hc fun t r e hk => h7 ⟨t, r, e, hk⟩
    obtain ⟨us, e, sm, rs⟩ := back_main s hs ts 2 0 hc2 (by decide) (Nat.zero_le _) (by unfold Dr; rw [List.drop_zero]; exact hli)
    refine ⟨us, ?_, sm, rs⟩
    rw [begin_content hs hv (by rw [show s.data.toList = _ from hli]; exact no_decl hc2)]
    exact e
end Go.Proofs.YtchfphakhmifmaaGreatDoor
