/- What the reader makes of a piece that is written as Print writes it: the mathematics. -/
import Derived.Test.YtchfphakhmifmaaGreatDoorYB2
import Derived.Test.YtchfphakhmifmaaGreatDoorXTk
import Derived.Test.YtchfphakhmifmaaGreatDoorXWr
import Derived.Test.YtchfphakhmifmaaGreatDoorXCan
namespace Go.Proofs.YtchfphakhmifmaaGreatDoor
open Go.Lib Go

/-- A text's bytes from a place on. -/
abbrev Dr (s : ByteArray) (a : Nat) : List UInt8 := s.data.toList.drop a
theorem dr_cons {s : ByteArray} {a : Nat} {c : UInt8} {l : List UInt8} (h : Dr s a = c :: l) : a < s.size ∧ ch s a = c.toNat ∧ Dr s (a + 1) = l := by
  have hl := congrArg List.length h
  rw [List.length_drop, tl_len, List.length_cons] at hl
  unfold Dr at h ⊢
  have h1 : s.data.toList[a]? = some c := by
    have := congrArg (fun l => l[0]?) h
    rwa [List.getElem?_drop, Nat.add_zero] at this
  refine ⟨by omega, by unfold ch; simp only [List.getD]; rw [h1]; rfl, ?_⟩
  rw [← List.drop_drop, h]; rfl
theorem dr_at {s : ByteArray} {a : Nat} {c : UInt8} {l : List UInt8} (n : Nat) (h : Dr s a = c :: l) (hn : c.toNat = n) : a < s.size ∧ ch s a = n ∧ Dr s (a + 1) = l := by rw [← hn]; exact dr_cons h
theorem dr_app {s : ByteArray} {a : Nat} {x y : List UInt8} (h : Dr s a = x ++ y) : Dr s (a + x.length) = y := by
  unfold Dr at h ⊢
  rw [← List.drop_drop, h, List.drop_left]
theorem dr_le {s : ByteArray} {a : Nat} {x y : List UInt8} (ha : a ≤ s.size) (h : Dr s a = x ++ y) : a + x.length ≤ s.size := by
  have hl := congrArg List.length h
  rw [List.length_drop, tl_len, List.length_append] at hl
  omega
theorem dr_nil {s : ByteArray} {a : Nat} (h : Dr s a = []) : s.size ≤ a := by
  have hl := congrArg List.length h
  rw [List.length_drop, tl_len, List.length_nil] at hl
  omega
theorem dr_ext {s : ByteArray} {a : Nat} {v : ByteArray} {y : List UInt8} (h : Dr s a = v.data.toList ++ y) : s.extract a (a + v.size) = v := by
  apply ba_ext
  unfold Dr at h
  rw [list_ext, h, Nat.add_sub_cancel_left, ← tl_len v, List.take_left]
theorem find_hit {p : UInt8 → Bool} {x y : List UInt8} {c : UInt8} (hx : ∀ b ∈ x, p b = false) (hc : p c = true) : (x ++ c :: y).findIdx p = x.length := by
  induction x with
  | nil => rw [List.nil_append, List.findIdx_cons, hc]; rfl
  | cons b x ih =>
    rw [List.cons_append, List.findIdx_cons, hx b (by simp), ih (fun d hd => hx d (by simp [hd]))]
    rfl
theorem find_none {p : UInt8 → Bool} {x : List UInt8} (hx : ∀ b ∈ x, p b = false) : x.findIdx p = x.length := by
  induction x with
  | nil => rfl
  | cons b x ih =>
    rw [List.findIdx_cons, hx b (by simp), ih (fun d hd => hx d (by simp [hd]))]
    rfl
theorem upN_hit {E : List UInt8} {s : ByteArray} {a : Nat} {x y : List UInt8} {c : UInt8} (h : Dr s a = x ++ c :: y) (hx : ∀ b ∈ x, E.contains b = false) (hc : E.contains c = true) : upN E s a = a + x.length := by
  unfold upN
  unfold Dr at h
  rw [h, find_hit hx hc]
theorem upN_none {E : List UInt8} {s : ByteArray} {a : Nat} {x : List UInt8} (h : Dr s a = x) (hx : ∀ b ∈ x, E.contains b = false) : upN E s a = a + x.length := by
  unfold upN
  unfold Dr at h
  rw [h, find_none hx]
theorem skN_hit {s : ByteArray} {a : Nat} {y : List UInt8} {c : UInt8} (h : Dr s a = c :: y) (hc : BLs.contains c = false) : skN s a = a := by
  unfold skN
  unfold Dr at h
  rw [h, List.findIdx_cons, hc]
  rfl
theorem skN_one {s : ByteArray} {a : Nat} {y : List UInt8} {b c : UInt8} (h : Dr s a = b :: c :: y) (hb : BLs.contains b = true) (hc : BLs.contains c = false) : skN s a = a + 1 := by
  unfold skN
  unfold Dr at h
  rw [h, List.findIdx_cons, hb, List.findIdx_cons, hc]
  rfl
theorem name_byte {nm : ByteArray} (h : xmlNameB nm = true) {b : UInt8} (hb : b ∈ nm.data.toList) : 45 ≤ b.toNat ∧ b.toNat ≤ 122 ∧ b.toNat ≠ 47 ∧ b.toNat ≠ 60 ∧ b.toNat ≠ 61 ∧ b.toNat ≠ 62 ∧ b.toNat ≠ 63 := by
  have := name_mem h b.toNat (List.mem_map.2 ⟨b, hb, rfl⟩)
  omega
theorem byte_ne {b c : UInt8} (h : b.toNat ≠ c.toNat) : (b == c) = false := by
  rw [beq_eq_false_iff_ne]
  exact fun e => h (by rw [e])
theorem name_NE {b : UInt8} (h : 45 ≤ b.toNat ∧ b.toNat ≤ 122 ∧ b.toNat ≠ 47 ∧ b.toNat ≠ 60 ∧ b.toNat ≠ 61 ∧ b.toNat ≠ 62 ∧ b.toNat ≠ 63) : NEb.data.toList.contains b = false ∧ BLs.contains b = false := by
  have e : ∀ c : UInt8, b.toNat ≠ c.toNat → (b == c) = false := fun c hc => byte_ne hc
  constructor
  · show List.contains [9, 10, 13, 32, 60, 62, 47, 61, 34, 39, 38] b = false
    simp only [List.contains_cons, List.contains_nil, Bool.or_false, Bool.or_eq_false_iff]
    refine ⟨e _ ?_, e _ ?_, e _ ?_, e _ ?_, e _ ?_, e _ ?_, e _ ?_, e _ ?_, e _ ?_, e _ ?_, e _ ?_⟩ <;> simp <;> omega
  · show List.contains [9, 10, 13, 32] b = false
    simp only [List.contains_cons, List.contains_nil, Bool.or_false, Bool.or_eq_false_iff]
    refine ⟨e _ ?_, e _ ?_, e _ ?_, e _ ?_⟩ <;> simp <;> omega
/-- A name begins with a byte of its own. -/
theorem name_cons {nm : ByteArray} (h : xmlNameB nm = true) : ∃ b r, nm.data.toList = b :: r ∧ 45 ≤ b.toNat ∧ b.toNat ≤ 122 ∧ b.toNat ≠ 47 ∧ b.toNat ≠ 60 ∧ b.toNat ≠ 61 ∧ b.toNat ≠ 62 ∧ b.toNat ≠ 63 := by
  have h0 := (name_ch h).1
  cases e : nm.data.toList with
  | nil => rw [← tl_len, e] at h0; exact absurd h0 (by decide)
  | cons b r => exact ⟨b, r, rfl, name_byte h (by rw [e]; simp)⟩
theorem nameZ_at {s nm : ByteArray} {a : Nat} {c : UInt8} {y : List UInt8} (h : Dr s a = nm.data.toList ++ c :: y) (hn : xmlNameB nm = true) (hc : NEb.data.toList.contains c = true) : nameZ s a = .val nm (a + nm.size) := by
  have hu : upN NEb.data.toList s a = a + nm.size := by
    rw [upN_hit h (fun b hb => (name_NE (name_byte hn hb)).1) hc, tl_len]
  obtain ⟨b, r, e, _⟩ := name_cons hn
  have ha : a < s.size := by rw [e] at h; exact (dr_cons h).1
  unfold nameZ
  rw [if_neg (by omega), hu, dr_ext h, if_pos hn]
theorem expZ_at {s : ByteArray} {a : Nat} {c : UInt8} {y : List UInt8} (h : Dr s a = c :: y) : expZ s a c.toNat = none := by
  obtain ⟨h1, h2, _⟩ := dr_cons h
  unfold expZ
  rw [if_neg (by omega), if_pos h2]
theorem p_open {s nm : ByteArray} {a : Nat} {c : UInt8} {y : List UInt8} (h : Dr s a = 60 :: (nm.data.toList ++ c :: y)) (hn : xmlNameB nm = true) (hc : NEb.data.toList.contains c = true) :
    pieceZ s (some 83) a = .told (some 135) (a + 1 + nm.size) ⟨0, nm, E0, a⟩ := by
  obtain ⟨h1, h2, h3⟩ := dr_at 60 h rfl
  obtain ⟨b, r, e, hb⟩ := name_cons hn
  have h4 := h3
  rw [e] at h4
  obtain ⟨g1, g2, _⟩ := dr_cons h4
  have hz : contentZ s a = .go (some 113) a none := by
    unfold contentZ
    rw [if_neg (by omega), if_pos h2, if_neg (by omega), if_neg (by omega), if_neg (by omega)]
  have hz2 : startZ s a = .go (some 135) (a + 1 + nm.size) (some ⟨0, nm, E0, a⟩) := by
    unfold startZ
    rw [nameZ_at h3 hn hc]
  show runZ s 2 _ a = _
  simp only [runZ, stepZ_content, hz, stepZ_startTag, hz2]
theorem p_end {s : ByteArray} {a : Nat} {y : List UInt8} (h : Dr s a = 62 :: y) :
    pieceZ s (some 135) a = .told (some 83) (a + 1) ⟨2, E0, E0, a⟩ := by
  obtain ⟨h1, h2, h3⟩ := dr_at 62 h rfl
  have hz : inTagZ s a = .go (some 151) a none := by
    unfold inTagZ
    rw [skN_hit h (by decide), if_neg (by omega), if_pos h2]
  show runZ s 2 _ a = _
  simp only [runZ, stepZ_inTag, hz, stepZ_tagEnd, tagEndZ]
theorem p_empty {s : ByteArray} {a : Nat} {y : List UInt8} (h : Dr s a = 47 :: 62 :: y) :
    pieceZ s (some 135) a = .told (some 83) (a + 1 + 1) ⟨3, E0, E0, a⟩ := by
  obtain ⟨h1, h2, h3⟩ := dr_at 47 h rfl
  have hz : inTagZ s a = .go (some 152) a none := by
    unfold inTagZ
    rw [skN_hit h (by decide), if_neg (by omega), if_neg (by rw [h2]; decide), if_pos h2]
  have hz2 : emptyEndZ s a = .go (some 83) (a + 1 + 1) (some ⟨3, E0, E0, a⟩) := by
    unfold emptyEndZ
    rw [show (62 : Nat) = (62 : UInt8).toNat from rfl, expZ_at h3]
  show runZ s 2 _ a = _
  simp only [runZ, stepZ_inTag, hz, stepZ_emptyEnd, hz2]
theorem p_close {s nm : ByteArray} {a : Nat} {y : List UInt8} (h : Dr s a = 60 :: 47 :: (nm.data.toList ++ 62 :: y)) (hn : xmlNameB nm = true) :
    pieceZ s (some 83) a = .told (some 83) (a + 2 + nm.size + 1) ⟨4, nm, E0, a⟩ := by
  obtain ⟨h1, h2, h3⟩ := dr_at 60 h rfl
  obtain ⟨g1, g2, g3⟩ := dr_at 47 h3 rfl
  have hz : contentZ s a = .go (some 111) a none := by
    unfold contentZ
    rw [if_neg (by omega), if_pos h2, if_pos ⟨g1, g2⟩]
  have h5 : Dr s (a + 2 + nm.size) = 62 :: y := by rw [← tl_len]; exact dr_app g3
  have hz2 : endZ s a = .go (some 83) (a + 2 + nm.size + 1) (some ⟨4, nm, E0, a⟩) := by
    unfold endZ
    rw [nameZ_at g3 hn (by decide)]
    dsimp only
    rw [skN_hit h5 (by decide), show (62 : Nat) = (62 : UInt8).toNat from rfl, expZ_at h5]
  show runZ s 2 _ a = _
  simp only [runZ, stepZ_content, hz, stepZ_endTag, hz2]
theorem plain_esc (attr : Bool) (vl : ByteArray) (p : Nat) : plainZ (escB attr vl) p = (none, vl) := by
  unfold plainZ escB
  rw [there_facts]
  simp only [if_true, sOf_lOf]
theorem esc_byte (attr : Bool) (vl : ByteArray) {b : UInt8} (hb : b ∈ (escB attr vl).data.toList) : b.toNat ≠ 60 ∧ (attr = true → b.toNat ≠ 34) := by
  unfold escB sOf at hb
  simp only [List.mem_map] at hb
  obtain ⟨c, hc, rfl⟩ := hb
  have := esc_clean attr (lOf vl) (lOf_lt vl) c hc
  have e : (UInt8.ofNat c).toNat = c := by simp [UInt8.toNat_ofNat']; omega
  rw [e]
  exact ⟨this.2.1, fun h => (this.2.2.2.2 h).1⟩
theorem p_attr {s nm vl : ByteArray} {a : Nat} {y : List UInt8} (h : Dr s a = 32 :: (nm.data.toList ++ 61 :: 34 :: ((escB true vl).data.toList ++ 34 :: y))) (hn : xmlNameB nm = true) :
    pieceZ s (some 135) a = .told (some 135) (a + 1 + nm.size + 2 + (escB true vl).size + 1) ⟨1, nm, vl, a + 1⟩ := by
  obtain ⟨b, r, e, hb⟩ := name_cons hn
  have h' := h
  rw [e] at h'
  have hs := skN_one h' (by decide) (name_NE hb).2
  obtain ⟨h1, h2, h3⟩ := dr_at 32 h rfl
  have h4 := h3
  rw [e] at h4
  obtain ⟨g1, g2, _⟩ := dr_cons h4
  have hz : inTagZ s a = .go (some 153) (a + 1) none := by
    unfold inTagZ
    rw [hs, if_neg (by omega), if_neg (by omega), if_neg (by omega), if_pos (by omega)]
  have h5 : Dr s (a + 1 + nm.size) = 61 :: 34 :: ((escB true vl).data.toList ++ 34 :: y) := by rw [← tl_len]; exact dr_app h3
  obtain ⟨i1, i2, i3⟩ := dr_at 61 h5 rfl
  obtain ⟨j1, j2, j3⟩ := dr_at 34 i3 rfl
  have k1 : Dr s (a + 1 + nm.size + 1 + 1 + (escB true vl).size) = 34 :: y := by
    have := dr_app j3
    rwa [tl_len] at this
  obtain ⟨l1, l2, l3⟩ := dr_at 34 k1 rfl
  have hu : upN [60, 34] s (a + 1 + nm.size + 1 + 1) = a + 1 + nm.size + 1 + 1 + (escB true vl).size := by
    rw [upN_hit j3 (fun b hb => ?_) (by decide), tl_len]
    have := esc_byte true vl hb
    simp only [List.contains_cons, List.contains_nil, Bool.or_false, Bool.or_eq_false_iff]
    exact ⟨byte_ne this.1, byte_ne (this.2 rfl)⟩
  have hz2 : attrZ s (a + 1) = .go (some 135) (a + 1 + nm.size + 2 + (escB true vl).size + 1) (some ⟨1, nm, vl, a + 1⟩) := by
    unfold attrZ
    rw [nameZ_at h3 hn (by decide)]
    dsimp only
    rw [skN_hit h5 (by decide), show (61 : Nat) = (61 : UInt8).toNat from rfl, expZ_at h5]
    dsimp only
    rw [skN_hit i3 (by decide)]
    unfold valueZ
    rw [if_neg (by omega), if_pos j2]
    unfold valQ
    rw [hu, if_neg (by omega), if_pos (show ch s _ = UInt8.toNat 34 from l2), dr_ext j3, plain_esc]
  show runZ s 2 _ a = _
  simp only [runZ, stepZ_inTag, hz, stepZ_attribute, hz2]
theorem p_text {s vl : ByteArray} {a : Nat} {y : List UInt8} (h : Dr s a = (escB false vl).data.toList ++ y) (hv : (escB false vl).data.toList ≠ []) (hy : y = [] ∨ ∃ y', y = 60 :: y') :
    pieceZ s (some 83) a = .told (some 83) (a + (escB false vl).size) ⟨5, E0, vl, a⟩ := by
  have hno : ∀ b ∈ (escB false vl).data.toList, List.contains [60] b = false := by
    intro b hb
    have := esc_byte false vl hb
    simp only [List.contains_cons, List.contains_nil, Bool.or_false]
    exact byte_ne this.1
  have hu : upN [60] s a = a + (escB false vl).size := by
    rcases hy with rfl | ⟨y', rfl⟩
    · rw [List.append_nil] at h
      rw [upN_none h hno, tl_len]
    · rw [upN_hit h hno (by decide), tl_len]
  obtain ⟨c, r, e⟩ := List.exists_cons_of_ne_nil hv
  have h' := h
  rw [e] at h'
  obtain ⟨h1, h2, _⟩ := dr_cons h'
  have hc : c.toNat ≠ 60 := (esc_byte false vl (by rw [e]; simp)).1
  have hz : contentZ s a = .go (some 110) a none := by
    unfold contentZ
    rw [if_neg (by omega), if_neg (by omega)]
  have hz2 : textZ s a = .go (some 83) (a + (escB false vl).size) (some ⟨5, E0, vl, a⟩) := by
    unfold textZ
    rw [hu, dr_ext h, plain_esc]
  show runZ s 2 _ a = _
  simp only [runZ, stepZ_content, hz, stepZ_text, hz2]
theorem idx_hh : ∀ (l r : List UInt8), index l [45, 45] = -1 → List.isSuffixOf [45] l = false → index (l ++ 45 :: 45 :: r) [45, 45] = l.length
  | [], r, _, _ => by simp [index]
  | b :: l, r, h, hs => by
    rw [index] at h
    split at h
    · exact absurd h (by decide)
    · rename_i hp
      have hl : index l [45, 45] = -1 := by
        split at h
        · rename_i he; exact eq_of_beq he
        · have := index_ge l [45, 45]; omega
      have hs2 : l ≠ [] → List.isSuffixOf [45] l = false := by
        intro hne
        rw [Bool.eq_false_iff] at hs ⊢
        intro hh
        apply hs
        rw [List.isSuffixOf_iff_suffix] at hh ⊢
        exact List.IsSuffix.trans hh (List.suffix_cons b l)
      have hs3 : List.isSuffixOf [45] l = false := by
        cases l with
        | nil => rfl
        | cons c l => exact hs2 (by simp)
      rw [List.cons_append, index, idx_hh l r hl hs3]
      have hnp : List.isPrefixOf [45, 45] (b :: (l ++ 45 :: 45 :: r)) = false := by
        cases l with
        | nil =>
          have hb : (45 == b) = false := by
            rw [beq_eq_false_iff_ne]
            rintro rfl
            exact absurd hs (by decide)
          simp only [List.isPrefixOf, hb, Bool.false_and]
        | cons c l =>
          rw [Bool.not_eq_true] at hp
          simpa [List.isPrefixOf] using hp
      rw [if_neg (by rw [hnp]; decide), if_neg (by rw [beq_iff_eq]; omega), List.length_cons]
      omega
theorem idx_cut : ∀ (l : List UInt8) (k : Nat), index l [45, 45] = (k : Int) → index (l.take k) [45, 45] = -1 ∧ List.isSuffixOf [45] (l.take k) = false ∧ k ≤ l.length ∧ List.isPrefixOf [45, 45] (l.drop k) = true
  | [], k, h => by
    rw [index] at h
    simp at h
  | b :: l, k, h => by
    rw [index] at h
    split at h
    · rename_i hp
      have : k = 0 := by omega
      subst this
      exact ⟨rfl, rfl, by omega, hp⟩
    · rename_i hp
      split at h
      · omega
      · obtain ⟨j, hj⟩ : ∃ j : Nat, index l [45, 45] = (j : Int) := ⟨(index l [45, 45]).toNat, by
          have := index_ge l [45, 45]
          rename_i hne
          rw [beq_iff_eq] at hne
          omega⟩
        have : k = j + 1 := by omega
        subst this
        obtain ⟨i1, i2, i3, i4⟩ := idx_cut l j hj
        rw [Bool.not_eq_true] at hp
        refine ⟨?_, ?_, by rw [List.length_cons]; omega, i4⟩
        · rw [List.take_succ_cons, index, i1]
          rw [if_neg ?_]
          · rfl
          · rw [Bool.not_eq_true]
            cases l with
            | nil => rw [List.take_nil]; simp [List.isPrefixOf]
            | cons c l =>
              cases j with
              | zero => simp [List.isPrefixOf]
              | succ j => simpa [List.isPrefixOf] using hp
        · rw [List.take_succ_cons]
          cases e : l.take j with
          | nil =>
            have hj0 : l.drop j = l := by
              cases j with
              | zero => rfl
              | succ j =>
                cases l with
                | nil => rfl
                | cons c l => simp at e
            rw [hj0] at i4
            cases l with
            | nil => simp at i4
            | cons c l =>
              rw [Bool.eq_false_iff]
              intro hh
              rw [List.isSuffixOf_iff_suffix] at hh
              have hb : b = 45 := by
                have := hh.subset (List.mem_singleton_self 45)
                simpa using (List.mem_singleton.1 this).symm
              subst hb
              simp [List.isPrefixOf] at hp i4
              exact hp i4.1
          | cons c m =>
            rw [e] at i2
            rw [Bool.eq_false_iff] at i2 ⊢
            intro hh
            apply i2
            rw [List.isSuffixOf_iff_suffix] at hh ⊢
            obtain ⟨p, hp⟩ := hh
            cases p with
            | nil => simp at hp
            | cons q p => exact ⟨p, by rw [List.cons_append] at hp; exact (List.cons.inj hp).2⟩
theorem p_comment {s vl : ByteArray} {a : Nat} {y : List UInt8} (h : Dr s a = 60 :: 33 :: 45 :: 45 :: (vl.data.toList ++ 45 :: 45 :: 62 :: y)) (hv : comB vl = true) :
    pieceZ s (some 83) a = .told (some 83) (a + 4 + vl.size + 3) ⟨6, E0, vl, a⟩ := by
  obtain ⟨h1, h2, h3⟩ := dr_at 60 h rfl
  obtain ⟨g1, g2, g3⟩ := dr_at 33 h3 rfl
  obtain ⟨i1, i2, i3⟩ := dr_at 45 g3 rfl
  obtain ⟨j1, j2, j3⟩ := dr_at 45 i3 rfl
  unfold comB at hv
  simp only [Bool.and_eq_true, Bool.not_eq_true'] at hv
  have hi : index vl.data.toList [45, 45] = -1 := by
    have := hv.1
    unfold Lib.contains at this
    have h4 := of_decide_eq_false this
    have := index_ge vl.data.toList [45, 45]
    omega
  have hx := idx_hh vl.data.toList (62 :: y) hi hv.2
  have hcom : comL s (a + 2 + 1 + 1) = (vl.data.toList, 62 :: y, true) := by
    unfold comL Lib.cut
    rw [show s.data.toList.drop (a + 2 + 1 + 1) = vl.data.toList ++ 45 :: 45 :: 62 :: y from j3, show bHH.data.toList = [45, 45] from rfl, hx, if_pos (by omega)]
    rw [Int.toNat_natCast, List.take_left]
    congr 2
    rw [← List.drop_drop, List.drop_left]; rfl
  have k1 : Dr s (a + 1 + 1 + 1 + 1 + vl.size) = 45 :: 45 :: 62 :: y := by
    have := dr_app j3
    rwa [tl_len] at this
  have k2 := (dr_cons (dr_cons k1).2.2).2.2
  obtain ⟨l1, l2, _⟩ := dr_at 62 k2 rfl
  have hz : contentZ s a = .go (some 112) a none := by
    unfold contentZ
    rw [if_neg (by omega), if_pos h2, if_neg (by rw [g2]; simp), if_pos ⟨g1, g2⟩]
  have hz2 : commentZ s a = .go (some 83) (a + 4 + vl.size + 3) (some ⟨6, E0, vl, a⟩) := by
    unfold commentZ
    rw [show (45 : Nat) = (45 : UInt8).toNat from rfl, expZ_at g3]
    dsimp only
    rw [show expZ s (a + 2 + 1) (UInt8.toNat 45) = none from expZ_at i3]
    dsimp only
    rw [hcom]
    simp only [if_true]
    rw [tl_len]
    rw [if_neg (by omega), show a + 2 + 1 + 1 + vl.size + 2 = a + 1 + 1 + 1 + 1 + vl.size + 1 + 1 by omega, if_pos l2]
    have e : bs vl.data.toList = vl := by apply ba_ext; unfold bs; rfl
    rw [e]
  show runZ s 2 _ a = _
  simp only [runZ, stepZ_content, hz, stepZ_comment, hz2]
theorem p_stop {s : ByteArray} {a : Nat} (h : Dr s a = []) : pieceZ s (some 83) a = .end_ a := by
  have hz : contentZ s a = .go none a none := by
    unfold contentZ
    rw [if_pos (dr_nil h)]
  show runZ s 2 _ a = _
  simp only [runZ, stepZ_content, hz]
end Go.Proofs.YtchfphakhmifmaaGreatDoor
