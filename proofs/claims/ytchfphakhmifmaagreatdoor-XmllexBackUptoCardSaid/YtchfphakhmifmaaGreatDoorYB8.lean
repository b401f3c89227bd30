/- What is read is printed: the mathematics, all of it. -/
import Derived.Test.YtchfphakhmifmaaGreatDoorYB7
namespace Go.Proofs.YtchfphakhmifmaaGreatDoor
open Go.Lib Go

theorem up_at {E : List UInt8} {s : ByteArray} {a : Nat} (ha : a ≤ s.size) (h : upN E s a < s.size) : ∃ c, E.contains c = true ∧ ch s (upN E s a) = c.toNat := by
  have hd : (Dr s a).findIdx (E.contains ·) < (Dr s a).length := by
    unfold upN at h
    rw [drop_len]
    show List.findIdx _ (s.data.toList.drop a) < _
    omega
  refine ⟨(Dr s a)[(Dr s a).findIdx (E.contains ·)]'hd, List.findIdx_getElem (w := hd), ?_⟩
  unfold upN ch
  simp only [List.getD]
  have e : s.data.toList[a + (Dr s a).findIdx (E.contains ·)]? = some ((Dr s a)[(Dr s a).findIdx (E.contains ·)]'hd) := by
    rw [← List.getElem?_drop]
    exact List.getElem?_eq_getElem hd
  rw [show List.drop a s.data.toList = Dr s a from rfl, e]
  rfl
theorem up_first {E : List UInt8} {s : ByteArray} {a : Nat} {c : UInt8} (hc : E.contains c = false) (ha : a < s.size) (h : ch s a = c.toNat) : a < upN E s a := by
  cases e : Dr s a with
  | nil => have := dr_nil e; omega
  | cons d l =>
    have hd := dr_cons e
    have : d = c := UInt8.toNat_inj.1 (hd.2.1.symm.trans h)
    unfold upN
    unfold Dr at e
    rw [e, List.findIdx_cons, this, hc]
    show a < a + (_ + 1)
    omega
theorem got_content {s : ByteArray} {last : Int} {a : Nat} {nx : Option Nat} {b : Nat} {t : Tok} (hv : VX (lOf s)) (ha : a ≤ s.size) (hi : inT last = false) (hva : VX ((lOf s).drop a)) (h5 : last = 5 → a = s.size ∨ ch s a = 60) (h : pieceZ s (some 83) a = .told nx b t) : Got s last a nx b t := by
  replace h : runZ s 2 (some 83) a = .told nx b t := h
  by_cases h0 : s.size ≤ a
  · have hz : contentZ s a = .go none a none := by unfold contentZ; rw [if_pos h0]
    simp only [runZ, stepZ_content, hz] at h
    cases h
  · by_cases h60 : ch s a = 60
    · by_cases h47 : a + 1 < s.size ∧ ch s (a + 1) = 47
      · have hz : contentZ s a = .go (some 111) a none := by unfold contentZ; rw [if_neg h0, if_pos h60, if_pos h47]
        simp only [runZ, stepZ_content, hz, stepZ_endTag] at h
        unfold endZ at h
        cases hn : nameZ s (a + 2) with
        | bad e q => rw [hn] at h; cases h
        | val nm b1 =>
          rw [hn] at h
          dsimp only at h
          have hn2 := name_inv (by omega) hn
          have hk2 := skN_le s b1 hn2.2.2.2.1
          cases hx : expZ s (skN s b1) 62 with
          | some ep => rw [hx] at h; cases h
          | none =>
            rw [hx] at h
            dsimp only at h
            have hx2 := expZ_none hx
            injection h with h3 h4 h6
            subst h3; subst h4; subst h6
            have hw := wr_size (k := 4) (nm := nm) (vl := E0) (by decide)
            refine got_mk (fit4 hi hn2.1) rfl (vx_from hv hx2.1 (by omega)).1 (fun hh => absurd hh (by decide)) ?_ (by omega)
            have hw2 : (wrB 4 nm E0).size ≤ nm.size + 3 := hw
            omega
      · by_cases h33 : a + 1 < s.size ∧ ch s (a + 1) = 33
        · have hz : contentZ s a = .go (some 112) a none := by unfold contentZ; rw [if_neg h0, if_pos h60, if_neg h47, if_pos h33]
          simp only [runZ, stepZ_content, hz, stepZ_comment] at h
          unfold commentZ at h
          cases hx : expZ s (a + 2) 45 with
          | some ep => rw [hx] at h; cases h
          | none =>
            rw [hx] at h
            dsimp only at h
            cases hy : expZ s (a + 2 + 1) 45 with
            | some ep => rw [hy] at h; cases h
            | none =>
              rw [hy] at h
              dsimp only at h
              have hy2 := expZ_none hy
              by_cases hc : (comL s (a + 2 + 1 + 1)).2.2 = true
              · rw [if_pos hc] at h
                have hk : ∃ k : Nat, Lib.index (Dr s (a + 2 + 1 + 1)) [45, 45] = (k : Int) ∧ (comL s (a + 2 + 1 + 1)).1 = (Dr s (a + 2 + 1 + 1)).take k := by
                  have hc2 : (Lib.cut (Dr s (a + 2 + 1 + 1)) [45, 45]).2.2 = true := hc
                  show ∃ k : Nat, _ ∧ (Lib.cut (Dr s (a + 2 + 1 + 1)) [45, 45]).1 = _
                  unfold Lib.cut at hc2 ⊢
                  split at hc2
                  · rename_i hge
                    rw [if_pos hge]
                    exact ⟨_, (Int.toNat_of_nonneg hge).symm, rfl⟩
                  · cases hc2
                obtain ⟨k, hk1, hk2⟩ := hk
                obtain ⟨i1, i2, i3, i4⟩ := idx_cut _ k hk1
                rw [drop_len] at i3
                have hlen : (comL s (a + 2 + 1 + 1)).1.length = k := by rw [hk2, List.length_take, drop_len]; omega
                rw [hlen] at h
                obtain ⟨y, hy3⟩ : ∃ y, Dr s (a + 2 + 1 + 1 + k) = 45 :: 45 :: y := by
                  obtain ⟨y, hy⟩ := List.isPrefixOf_iff_prefix.1 i4
                  exact ⟨y, by unfold Dr at hy ⊢; rw [List.drop_drop] at hy; exact hy.symm⟩
                obtain ⟨j1, j2, j3⟩ := dr_at 45 hy3 rfl
                obtain ⟨l1, l2, l3⟩ := dr_at 45 j3 rfl
                by_cases hsz : s.size ≤ a + 2 + 1 + 1 + k + 2
                · rw [if_pos hsz] at h; cases h
                · rw [if_neg hsz] at h
                  by_cases h62 : ch s (a + 2 + 1 + 1 + k + 2) = 62
                  · rw [if_pos h62] at h
                    dsimp only at h
                    injection h with h3 h4 h6
                    subst h3; subst h4; subst h6
                    have e1 : bs (comL s (a + 2 + 1 + 1)).1 = s.extract (a + 2 + 1 + 1) (a + 2 + 1 + 1 + k) := by
                      apply ba_ext
                      rw [bs_list, hk2, list_ext, Nat.add_sub_cancel_left]
                    have hz2 : (bs (comL s (a + 2 + 1 + 1)).1).size = k := by rw [e1, size_ext s _ _ (by omega)]; omega
                    have hvl : VX (lOf (bs (comL s (a + 2 + 1 + 1)).1)) := by
                      rw [e1]
                      exact vx_mid (vx_from hv hy2.1 (by omega)).1 (by omega) (Or.inr ⟨j1, by omega⟩)
                    have hcom : comB (bs (comL s (a + 2 + 1 + 1)).1) = true := by
                      unfold comB
                      rw [bs_list, hk2]
                      have c1 : Lib.contains (List.take k (Dr s (a + 2 + 1 + 1))) bHH.data.toList = false := by
                        unfold Lib.contains
                        exact decide_eq_false (by rw [show bHH.data.toList = [45, 45] from rfl, i1]; decide)
                      have c2 : Lib.hasSuffix (List.take k (Dr s (a + 2 + 1 + 1))) [45] = false := i2
                      rw [c1, c2]
                      rfl
                    have hw := wr_size (k := 6) (nm := E0) (vl := bs (comL s (a + 2 + 1 + 1)).1) (by decide)
                    refine got_mk (fit6 hi hvl hcom) rfl ?_ (fun hh => absurd hh (by decide)) ?_ (by omega)
                    · exact (vx_from hv (q := a + 2 + 1 + 1 + k + 2) (by omega) (by omega)).1
                    · have hw2 : (wrB 6 E0 (bs (comL s (a + 2 + 1 + 1)).1)).size ≤ (bs (comL s (a + 2 + 1 + 1)).1).size + 7 := hw
                      omega
                  · rw [if_neg h62] at h; cases h
              · rw [if_neg hc] at h
                cases h
        · by_cases h63 : a + 1 < s.size ∧ ch s (a + 1) = 63
          · have hz : contentZ s a = .bad 44 a := by unfold contentZ; rw [if_neg h0, if_pos h60, if_neg h47, if_neg h33, if_pos h63]
            simp only [runZ, stepZ_content, hz] at h
            cases h
          · have hz : contentZ s a = .go (some 113) a none := by unfold contentZ; rw [if_neg h0, if_pos h60, if_neg h47, if_neg h33, if_neg h63]
            simp only [runZ, stepZ_content, hz, stepZ_startTag] at h
            unfold startZ at h
            cases hn : nameZ s (a + 1) with
            | bad e q => rw [hn] at h; cases h
            | val nm b1 =>
              rw [hn] at h
              dsimp only at h
              have hn2 := name_inv (by omega) hn
              injection h with h3 h4 h6
              subst h3; subst h4; subst h6
              have hw := wr_size (k := 0) (nm := nm) (vl := E0) (by decide)
              refine got_mk (fit0 hi hn2.1) rfl (after hv (by omega) hn2.2.2.2.1 hn2.2.2.2.2) (fun hh => absurd hh (by decide)) ?_ hn2.2.2.2.1
              have hw2 : (wrB 0 nm E0).size ≤ nm.size + 1 := hw
              omega
    · have hz : contentZ s a = .go (some 110) a none := by unfold contentZ; rw [if_neg h0, if_neg h60]
      simp only [runZ, stepZ_content, hz, stepZ_text] at h
      unfold textZ at h
      have hu := upN_le [60] s a ha
      have hlt : a < upN [60] s a := by
        cases e : Dr s a with
        | nil => have := dr_nil e; omega
        | cons d l =>
          have hd := dr_cons e
          refine up_first (c := d) ?_ (by omega) hd.2.1
          simp only [List.contains_cons, List.contains_nil, Bool.or_false]
          exact byte_ne (fun hh => h60 (hd.2.1.trans hh))
      have hend : upN [60] s a = s.size ∨ upN [60] s a < s.size ∧ ch s (upN [60] s a) = 60 := by
        by_cases hh : upN [60] s a < s.size
        · obtain ⟨c, hc, hc2⟩ := up_at ha hh
          right
          have : c = 60 := by simpa using hc
          rw [this] at hc2
          exact ⟨hh, hc2⟩
        · left; omega
      generalize upN [60] s a = e at h hu hlt hend
      cases hp : plainZ (s.extract a e) a with
      | mk o v =>
        rw [hp] at h
        cases o with
        | some ep => cases h
        | none =>
          dsimp only at h
          injection h with h3 h4 h6
          subst h3; subst h4; subst h6
          have hpl := plain_inv hp (vx_mid hva hu.1 (by rcases hend with h1 | h1; · exact Or.inl h1
                                                        exact Or.inr ⟨h1.1, by omega⟩))
          rw [size_ext s a e hu.2] at hpl
          have hw := wr_size (k := 5) (nm := E0) (vl := v) (by decide)
          refine got_mk (fit5 hi hpl.1 (hpl.2.2 (by omega)) (fun hh => ?_)) rfl ?_ (fun _ => ?_) ?_ hu.2
          · rcases h5 hh with h1 | h1
            · omega
            · exact h60 h1
          · rcases hend with h1 | h1
            · rw [List.drop_eq_nil_of_le (by rw [lOf_length]; omega)]
              exact vx_nil
            · exact (vx_from hv h1.1 (by omega)).2
          · rcases hend with h1 | h1
            · exact Or.inl h1
            · exact Or.inr h1.2
          · have hw2 : (wrB 5 E0 v).size ≤ 6 * v.size := hw
            omega
theorem end_inTag {s : ByteArray} {a b : Nat} (h : pieceZ s (some 135) a = .end_ b) : False := by
  replace h : runZ s 2 (some 135) a = .end_ b := h
  rw [runZ, stepZ_inTag] at h
  unfold inTagZ at h
  generalize skN s a = p at h
  by_cases h1 : s.size ≤ p
  · rw [if_pos h1] at h; cases h
  · rw [if_neg h1] at h
    by_cases h2 : ch s p = 62
    · rw [if_pos h2] at h
      simp only [runZ, stepZ_tagEnd, tagEndZ] at h
      cases h
    · rw [if_neg h2] at h
      by_cases h3 : ch s p = 47
      · rw [if_pos h3] at h
        simp only [runZ, stepZ_emptyEnd] at h
        unfold emptyEndZ at h
        cases hx : expZ s (p + 1) 62 with
        | some ep => rw [hx] at h; cases h
        | none => rw [hx] at h; cases h
      · rw [if_neg h3] at h
        by_cases h4 : a < p
        · rw [if_pos h4] at h
          simp only [runZ, stepZ_attribute] at h
          unfold attrZ at h
          cases hn : nameZ s p with
          | bad e q => rw [hn] at h; cases h
          | val nm b1 =>
            rw [hn] at h
            dsimp only at h
            cases hx : expZ s (skN s b1) 61 with
            | some ep => rw [hx] at h; cases h
            | none =>
              rw [hx] at h
              dsimp only at h
              cases hva : valueZ s (skN s (skN s b1 + 1)) with
              | bad e q => rw [hva] at h; cases h
              | val vl c => rw [hva] at h; cases h
        · rw [if_neg h4] at h; cases h
theorem it_k (t : Tok) : t.it.k = (t.k : Int) := rfl
theorem fwd (s : ByteArray) (hs : s.size ≤ 1048576) (hv : VX (lOf s)) : ∀ (n : Nat) (last : Int) (a : Nat) (us : List Tok), s.size - a < n → a ≤ s.size → VX ((lOf s).drop a) → (last = 5 → a = s.size ∨ ch s a = 60) → toksZ s (some (stN last)) a = (us, none) → Chn last (us.map Tok.it) ∧ (flatL (us.map Tok.it)).length ≤ 6 * (s.size - a)
  | 0, _, _, _, hn, _, _, _, _ => by omega
  | n + 1, last, a, us, hn, ha, hva, h5, h => by
    cases hp : pieceZ s (some (stN last)) a with
    | bad e p =>
      rw [toksZ_bad hp] at h
      cases h
    | end_ b =>
      rw [toksZ_end hp] at h
      injection h with h1 _
      subst h1
      refine ⟨?_, by show 0 ≤ _; omega⟩
      show inT last = false
      cases hi : inT last
      · rfl
      · unfold stN at hp
        rw [if_pos hi] at hp
        exact absurd (end_inTag hp) id
    | told nx b t =>
      have hg : Got s last a nx b t := by
        unfold stN at hp
        cases hi : inT last
        · rw [if_neg (by rw [hi]; decide)] at hp
          exact got_content hv ha hi hva h5 hp
        · rw [if_pos hi] at hp
          exact got_inTag hv ha hi hp
      have hbd := piece_told (ok_st last hs ha) hp
      rw [toksZ_told (ok_st last hs ha) hp] at h
      injection h with h1 h2
      have ih := fwd s hs hv n (t.k : Int) b (toksZ s nx b).1 (by omega) hg.le hg.vx (fun hh => hg.t5 (by omega)) (by rw [← hg.nx]; exact Prod.ext rfl h2)
      subst h1
      refine ⟨⟨fits_put (it_k t) hg.f, ih.1⟩, ?_⟩
      have e : flatL ((t :: (toksZ s nx b).1).map Tok.it) = lOf (wrB t.k t.nm t.vl) ++ flatL ((toksZ s nx b).1.map Tok.it) := by
        unfold flatL
        rw [List.map_cons, List.flatMap_cons]
        rfl
      rw [e, List.length_append, lOf_length]
      have h6 := hg.sz
      have h7 := hg.le
      omega
theorem toks_ok {s : ByteArray} {us : List Tok} (h : toksN s = (us, none)) : s.size ≤ 1048576 ∧ VX (lOf s) := by
  by_cases h1 : 1048576 < s.size
  · exfalso
    have hz : beginZ s = .bad 45 1048576 := by unfold beginZ; rw [if_pos h1]
    have hp : pieceZ s (some 58) 0 = .bad 45 1048576 := by
      show runZ s 3 _ 0 = _
      rw [runZ, stepZ_begin, hz]
    unfold toksN at h
    rw [toksZ_bad hp] at h
    cases h
  · refine ⟨by omega, ?_⟩
    by_cases h2 : (faultN xmlB s).1 = 0
    · exact (chars_iff s).1 h2
    · exfalso
      have hz : beginZ s = .bad (faultN xmlB s).1 (faultN xmlB s).2 := by unfold beginZ; rw [if_neg h1, if_neg h2]
      have hp : pieceZ s (some 58) 0 = .bad (faultN xmlB s).1 (faultN xmlB s).2 := by
        show runZ s 3 _ 0 = _
        rw [runZ, stepZ_begin, hz]
      unfold toksN at h
      rw [toksZ_bad hp] at h
      cases h
theorem fwd_all {s : ByteArray} {us : List Tok} (h : toksN s = (us, none)) : Chn (-1) (us.map Tok.it) ∧ (flatL (us.map Tok.it)).length ≤ 6 * s.size := by
  obtain ⟨hs, hv⟩ := toks_ok h
  cases hp : Lib.hasPrefix s.data.toList bXML.data.toList
  · rw [begin_content hs hv hp] at h
    have hf := fwd s hs hv (s.size + 1) 2 0 us (by omega) (Nat.zero_le _) (by rw [List.drop_zero]; exact hv) (fun hh => absurd hh (by decide)) h
    refine ⟨?_, hf.2⟩
    cases us with
    | nil => exact (show inT (-1) = false by decide)
    | cons t us =>
      obtain ⟨k, hk, f⟩ := fits_of hf.1.1
      refine ⟨fits_put hk ⟨f.lt, f.n0, f.v0, f.tag.trans (by decide), fun _ => rfl, fun hh => ⟨(f.t5 hh).1, by decide⟩, f.nm, f.vx, f.c6, f.c7⟩, hf.1.2⟩
  · have hbd := begin_decl hs hv hp
    by_cases hD : declN s = 0
    · have hz : declZ s = .bad 44 0 := by unfold declZ; rw [if_pos hD]
      rw [hz] at hbd
      unfold toksN at h
      rw [toksZ_bad hbd] at h
      cases h
    · have hz : declZ s = .go (some 83) (declN s) (some ⟨7, E0, s.extract 5 (declN s - 2), 0⟩) := by unfold declZ; rw [if_neg hD]
      rw [hz] at hbd
      unfold toksN at h
      rw [toksZ_told (ok_begin hs) hbd] at h
      injection h with h1 h2
      obtain ⟨r, ⟨x1, x2, x3, b, e, g1, g2, g3, hb⟩, hr⟩ := decl_to hD
      have hdp := declN_pos hD
      have hdr : Dr s (declN s - 2) = 63 :: 62 :: r := by
        have e2 : li s = (li bXML ++ (x1 ++ (x2 ++ (x3 ++ b)))) ++ 63 :: 62 :: r := by rw [e]; simp
        have hl : (li bXML ++ (x1 ++ (x2 ++ (x3 ++ b)))).length = declN s - 2 := by
          have := congrArg List.length e2
          rw [tl_len, List.length_append, List.length_cons, List.length_cons] at this
          omega
        unfold Dr
        rw [show s.data.toList = _ from e2, ← hl, List.drop_left]
      obtain ⟨i1, i2, i3⟩ := dr_at 63 hdr rfl
      obtain ⟨j1, j2, j3⟩ := dr_at 62 i3 rfl
      rw [show declN s - 2 + 1 = declN s - 1 by omega] at j1 j2
      have h4 : ch s 4 = 108 := by
        have : Dr s 4 = 108 :: (x1 ++ (x2 ++ (x3 ++ (b ++ 63 :: 62 :: r)))) := by
          unfold Dr
          rw [show s.data.toList = _ from e]
          rfl
        exact (dr_at 108 this rfl).2.1
      have hvl : VX (lOf (s.extract 5 (declN s - 2))) := vx_mid (vx_from hv (q := 4) (by omega) (by omega)).1 (by omega) (Or.inr ⟨i1, by omega⟩)
      have hsz : (s.extract 5 (declN s - 2)).size = declN s - 7 := by rw [size_ext s _ _ (by omega)]; omega
      have hcat : li (bXML ++ s.extract 5 (declN s - 2) ++ bSHUT) = li bXML ++ (x1 ++ (x2 ++ (x3 ++ (b ++ [63, 62])))) := by
        have hx : li (s.extract 5 (declN s - 2)) = x1 ++ (x2 ++ (x3 ++ b)) := by
          unfold li
          rw [list_ext, show s.data.toList = _ from e, show (5 : Nat) = (li bXML).length from rfl, List.drop_left]
          have hl : (x1 ++ (x2 ++ (x3 ++ b))).length = declN s - 2 - (li bXML).length := by
            have := congrArg List.length e
            simp only [List.length_append, List.length_cons, tl_len] at this
            simp only [List.length_append, tl_len]
            have h5 : bXML.size = 5 := rfl
            omega
          rw [← hl]
          have : x1 ++ (x2 ++ (x3 ++ (b ++ 63 :: 62 :: r))) = (x1 ++ (x2 ++ (x3 ++ b))) ++ 63 :: 62 :: r := by simp
          rw [this, List.take_left]
        show (bXML ++ s.extract 5 (declN s - 2) ++ bSHUT).data.toList = _
        rw [ByteArray.data_append, Array.toList_append, ByteArray.data_append, Array.toList_append, show (s.extract 5 (declN s - 2)).data.toList = _ from hx]
        simp
        rfl
      have hdc : dclB (s.extract 5 (declN s - 2)) = true := by
        have hD2 := (decl_of (s := bXML ++ s.extract 5 (declN s - 2) ++ bSHUT) (r := []) ⟨x1, x2, x3, b, hcat, g1, g2, g3, hb⟩).1
        unfold dclB
        exact decide_eq_true (by simpa using hD2)
      have hf := fwd s hs hv (s.size + 1) 7 (declN s) (toksZ s (some 83) (declN s)).1 (by omega) hdp.2 (after hv (by omega) hdp.2 (by omega)) (fun hh => absurd hh (by decide)) (Prod.ext rfl h2)
      subst h1
      refine ⟨⟨fits_put (it_k _) (fit7 hvl hdc), hf.1⟩, ?_⟩
      have e9 : flatL ((⟨7, E0, s.extract 5 (declN s - 2), 0⟩ :: (toksZ s (some 83) (declN s)).1).map Tok.it) = lOf (wrB 7 E0 (s.extract 5 (declN s - 2))) ++ flatL ((toksZ s (some 83) (declN s)).1.map Tok.it) := by
        unfold flatL
        rw [List.map_cons, List.flatMap_cons]
        rfl
      rw [e9, List.length_append, lOf_length]
      have hw := wr_size (k := 7) (nm := E0) (vl := s.extract 5 (declN s - 2)) (by decide)
      have hw2 : (wrB 7 E0 (s.extract 5 (declN s - 2))).size ≤ (s.extract 5 (declN s - 2)).size + 7 := hw
      have hf2 := hf.2
      omega
end Go.Proofs.YtchfphakhmifmaaGreatDoor
