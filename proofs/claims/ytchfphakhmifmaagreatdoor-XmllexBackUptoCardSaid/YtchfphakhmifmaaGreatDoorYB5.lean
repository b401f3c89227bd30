/- What a declaration is, as a row of bytes: the mathematics of declSize. -/
import Derived.Test.YtchfphakhmifmaaGreatDoorYB4
namespace Go.Proofs.YtchfphakhmifmaaGreatDoor
open Go.Lib Go

abbrev li (s : ByteArray) : List UInt8 := s.data.toList
def Bk (l : List UInt8) : Prop := ∀ b ∈ l, BLs.contains b = true
theorem drop_blank {b l : List UInt8} {c : UInt8} (hb : Bk b) (hc : BLs.contains c = false) : (b ++ c :: l).dropWhile (BLs.contains ·) = c :: l := by
  induction b with
  | nil => rw [List.nil_append, List.dropWhile_cons_of_neg (by rw [hc]; decide)]
  | cons d b ih => rw [List.cons_append, List.dropWhile_cons_of_pos (hb d (by simp)), ih (fun x hx => hb x (by simp [hx]))]
theorem tl_list (s : ByteArray) : li (tlB s) = (li s).dropWhile (BLs.contains ·) := by
  unfold tlB Lib.trimLeftS li
  rw [bs_list]
theorem tl_of {s : ByteArray} {b l : List UInt8} {c : UInt8} (h : li s = b ++ c :: l) (hb : Bk b) (hc : BLs.contains c = false) : li (tlB s) = c :: l := by
  rw [tl_list, h, drop_blank hb hc]
theorem tl_split (s : ByteArray) : ∃ b, Bk b ∧ li s = b ++ li (tlB s) := by
  refine ⟨(li s).takeWhile (BLs.contains ·), fun x hx => ?_, by rw [tl_list, List.takeWhile_append_dropWhile]⟩
  exact (List.all_eq_true.1 List.all_takeWhile) x hx
theorem cp_iff (s p r : ByteArray) : cpB s p = (r, true) ↔ li s = li p ++ li r := by
  unfold cpB
  constructor
  · intro h
    split at h
    · rename_i hp
      injection h with h1
      obtain ⟨t, ht⟩ := List.isPrefixOf_iff_prefix.1 hp
      have e : li r = t := by
        unfold li
        rw [← h1, list_ext, ← ht, ← tl_len p, List.drop_left, List.take_of_length_le]
        have := congrArg List.length ht
        rw [List.length_append, tl_len] at this
        rw [tl_len] at this ⊢
        omega
      rw [e]; exact ht.symm
    · cases h
  · intro h
    rw [if_pos (show Lib.hasPrefix s.data.toList p.data.toList = true from List.isPrefixOf_iff_prefix.2 ⟨li r, h.symm⟩)]
    congr 1
    apply ba_ext
    unfold li at h
    have hl := congrArg List.length h
    rw [List.length_append, tl_len, tl_len, tl_len] at hl
    rw [list_ext, h, ← tl_len p, List.drop_left, List.take_of_length_le (by rw [tl_len, tl_len]; omega)]
theorem cp_no {s p : ByteArray} {c : UInt8} {l m : List UInt8} {d : UInt8} (h : li s = c :: l) (hp : li p = d :: m) (hn : c ≠ d) : cpB s p = (s, false) := by
  unfold cpB
  rw [if_neg]
  rw [Bool.not_eq_true]
  show List.isPrefixOf (li p) (li s) = false
  rw [h, hp]
  simp only [List.isPrefixOf]
  rw [show (d == c) = false from beq_eq_false_iff_ne.2 (Ne.symm hn)]
  rfl
theorem qt_iff (s v r : ByteArray) : qtB s = (v, r, true) ↔ ∃ q : UInt8, (q = 34 ∨ q = 39) ∧ li s = q :: (li v ++ q :: li r) ∧ ∀ b ∈ li v, b ≠ q := by
  unfold qtB
  constructor
  · intro h
    split at h
    · rename_i hq
      obtain ⟨c, l, e⟩ : ∃ c l, li s = c :: l := by
        cases e : li s with
        | nil => rw [← tl_len] at hq; unfold li at e; rw [e] at hq; exact absurd hq.1 (by decide)
        | cons c l => exact ⟨c, l, rfl⟩
      have hd := dr_cons (s := s) (a := 0) (by unfold Dr; rw [List.drop_zero]; exact e)
      have el : li (s.extract 1 s.size) = l := by
        unfold li
        rw [list_from]
        have := hd.2.2
        rwa [Nat.zero_add] at this
      have hc : c = 34 ∨ c = 39 := by
        rw [hd.2.1] at hq
        rcases hq.2 with h1 | h1
        · left; exact UInt8.toNat_inj.1 h1
        · right; exact UInt8.toNat_inj.1 h1
      rw [hd.2.1] at h
      generalize hu : s.extract 1 s.size = u at h el
      unfold qtR at h
      injection h with h1 h2
      injection h2 with h2 h3
      have hk := of_decide_eq_true h3
      rw [if_pos hk] at h2
      have hat := fst_at u c.toNat hk
      have hbe := fun j hj => fst_before u c.toNat j hj
      generalize fstN u c.toNat = k at h1 h2 hk hat hbe
      have ed : Dr u k = c :: Dr u (k + 1) := by
        cases e2 : Dr u k with
        | nil => have := dr_nil e2; omega
        | cons d m =>
          have hd2 := dr_cons e2
          rw [hd2.2.2]
          have : d = c := UInt8.toNat_inj.1 (hd2.2.1.symm.trans hat)
          rw [this]
      have ev : li v = l.take k := by
        unfold li at el ⊢
        rw [← h1, list_ext, el, List.drop_zero, Nat.sub_zero]
      have er : li r = Dr u (k + 1) := by
        unfold li
        rw [← h2, list_from]
      refine ⟨c, hc, ?_, fun b hb => ?_⟩
      · rw [e, ev, er, ← ed]
        unfold Dr
        rw [show u.data.toList = l from el, List.take_append_drop]
      · rw [ev] at hb
        obtain ⟨j, hj, rfl⟩ := List.mem_iff_getElem.1 hb
        rw [List.length_take] at hj
        intro hh
        apply hbe j (by omega)
        unfold ch
        rw [show u.data.toList = l from el]
        rw [List.getElem_take] at hh
        simp only [List.getD]
        rw [List.getElem?_eq_getElem (by omega), Option.getD_some, hh]
    · cases h
  · rintro ⟨q, hq, e, hv⟩
    have hd := dr_cons (s := s) (a := 0) (by unfold Dr; rw [List.drop_zero]; exact e)
    have el : li (s.extract 1 s.size) = li v ++ q :: li r := by
      unfold li
      rw [list_from]
      have := hd.2.2
      rwa [Nat.zero_add] at this
    have hq' : q.toNat = 34 ∨ q.toNat = 39 := by
      rcases hq with rfl | rfl
      · exact Or.inl rfl
      · exact Or.inr rfl
    rw [if_pos ⟨hd.1, by rw [hd.2.1]; exact hq'⟩, hd.2.1]
    generalize s.extract 1 s.size = u at el
    have hf : fstN u q.toNat = v.size := by
      unfold fstN lOf
      rw [show u.data.toList = li v ++ q :: li r from el, List.findIdx_map, ← tl_len v]
      refine find_hit (fun b hb => ?_) (by simp)
      show (b.toNat == q.toNat) = false
      rw [beq_eq_false_iff_ne]
      exact fun hh => hv b hb (UInt8.toNat_inj.1 hh)
    have hl := congrArg List.length el
    rw [tl_len, List.length_append, List.length_cons, tl_len, tl_len] at hl
    unfold qtR
    rw [hf, if_pos (by omega), decide_eq_true (by omega)]
    unfold li at el
    congr 1
    · apply ba_ext
      rw [list_ext, el, List.drop_zero, Nat.sub_zero, ← tl_len v, List.take_left]
    · congr 1
      apply ba_ext
      rw [list_from, el, ← List.drop_drop, ← tl_len v, List.drop_left]; rfl
/-- A setting: blanks, its name, an equals sign, its value in quotes. -/
def Gm (ok : ByteArray → Bool) (nm : ByteArray) (x : List UInt8) : Prop := ∃ (b1 b2 b3 : List UInt8) (q : UInt8) (v : ByteArray), x = b1 ++ (li nm ++ (b2 ++ 61 :: (b3 ++ q :: (li v ++ [q])))) ∧ b1 ≠ [] ∧ Bk b1 ∧ Bk b2 ∧ Bk b3 ∧ (q = 34 ∨ q = 39) ∧ (∀ b ∈ li v, b ≠ q) ∧ ok v = true
theorem quote_bl {q : UInt8} (h : q = 34 ∨ q = 39) : BLs.contains q = false := by rcases h with rfl | rfl <;> decide
theorem set_of {ok : ByteArray → Bool} {nm s r : ByteArray} {x : List UInt8} (hx : Gm ok nm x) (h : li s = x ++ li r) {n0 : UInt8} {n1 : List UInt8} (hn : li nm = n0 :: n1) (hb : BLs.contains n0 = false) : setB ok nm s = (r, true) := by
  obtain ⟨b1, b2, b3, q, v, rfl, h1, hb1, hb2, hb3, hq, hv, hok⟩ := hx
  have e0 : li s = b1 ++ n0 :: (n1 ++ (b2 ++ 61 :: (b3 ++ q :: (li v ++ q :: li r)))) := by rw [h, hn]; simp
  have t1 : li (tlB s) = n0 :: (n1 ++ (b2 ++ 61 :: (b3 ++ q :: (li v ++ q :: li r)))) := tl_of e0 hb1 hb
  have c1 : cpB (tlB s) nm = (bs (b2 ++ 61 :: (b3 ++ q :: (li v ++ q :: li r))), true) := (cp_iff _ _ _).2 (by rw [t1, show li (bs _) = _ from bs_list _, hn]; simp)
  have t2 : li (tlB (bs (b2 ++ 61 :: (b3 ++ q :: (li v ++ q :: li r))))) = 61 :: (b3 ++ q :: (li v ++ q :: li r)) := tl_of (bs_list _) hb2 (by decide)
  have c2 : cpB (tlB (bs (b2 ++ 61 :: (b3 ++ q :: (li v ++ q :: li r))))) ⟨#[61]⟩ = (bs (b3 ++ q :: (li v ++ q :: li r)), true) := (cp_iff _ _ _).2 (by rw [t2, show li (bs _) = _ from bs_list _]; rfl)
  have t3 : li (tlB (bs (b3 ++ q :: (li v ++ q :: li r)))) = q :: (li v ++ q :: li r) := tl_of (bs_list _) hb3 (quote_bl hq)
  have q3 := (qt_iff _ v r).2 ⟨q, hq, t3, hv⟩
  have hz : decide ((tlB s).size < s.size) = true := by
    have l1 := congrArg List.length t1
    have l2 := congrArg List.length e0
    rw [tl_len] at l1 l2
    rw [List.length_append] at l2
    have := List.length_pos_iff.2 h1
    exact decide_eq_true (by omega)
  unfold setB
  rw [c1, c2, q3, hz, hok]
  rfl
theorem set_to {ok : ByteArray → Bool} {nm s r : ByteArray} (h : setB ok nm s = (r, true)) : ∃ x, Gm ok nm x ∧ li s = x ++ li r := by
  unfold setB at h
  split at h
  · rename_i hc
    simp only [Bool.and_eq_true, decide_eq_true_eq] at hc
    obtain ⟨hz, hc1, hc2, hq, hok⟩ := hc
    injection h with h1
    obtain ⟨b1, hb1, e1⟩ := tl_split s
    have p1 := (cp_iff (tlB s) nm (cpB (tlB s) nm).1).1 (by rw [← hc1])
    generalize (cpB (tlB s) nm).1 = u1 at hc2 hq hok h1 p1
    obtain ⟨b2, hb2, e2⟩ := tl_split u1
    have p2 := (cp_iff (tlB u1) ⟨#[61]⟩ (cpB (tlB u1) ⟨#[61]⟩).1).1 (by rw [← hc2])
    generalize (cpB (tlB u1) ⟨#[61]⟩).1 = u2 at hq hok h1 p2
    obtain ⟨b3, hb3, e3⟩ := tl_split u2
    obtain ⟨q, hq2, e4, hv⟩ := (qt_iff (tlB u2) (qtB (tlB u2)).1 (qtB (tlB u2)).2.1).1 (by rw [← hq])
    rw [h1] at e4
    refine ⟨_, ⟨b1, b2, b3, q, _, rfl, ?_, hb1, hb2, hb3, hq2, hv, hok⟩, ?_⟩
    · rintro rfl
      have := congrArg List.length e1
      rw [List.nil_append, tl_len, tl_len] at this
      omega
    · rw [e1, p1, e2, p2, e3, e4]
      simp
      rfl
  · cases h
theorem set_no {ok : ByteArray → Bool} {nm s : ByteArray} {b l : List UInt8} {c : UInt8} (h : li s = b ++ c :: l) (hb : Bk b) (hc : BLs.contains c = false) {n0 : UInt8} {n1 : List UInt8} (hn : li nm = n0 :: n1) (hne : c ≠ n0) : setB ok nm s = (s, false) := by
  unfold setB
  rw [cp_no (tl_of h hb hc) hn hne]
  simp
theorem set_cases (ok : ByteArray → Bool) (nm s : ByteArray) : setB ok nm s = ((setB ok nm s).1, true) ∨ setB ok nm s = (s, false) := by
  unfold setB
  split
  · exact Or.inl rfl
  · exact Or.inr rfl
abbrev bVER : ByteArray := ⟨#[118, 101, 114, 115, 105, 111, 110]⟩
abbrev bENC : ByteArray := ⟨#[101, 110, 99, 111, 100, 105, 110, 103]⟩
abbrev bSTA : ByteArray := ⟨#[115, 116, 97, 110, 100, 97, 108, 111, 110, 101]⟩
/-- A declaration ahead of a rest. -/
def Dc (l r : List UInt8) : Prop := ∃ x1 x2 x3 b, l = li bXML ++ (x1 ++ (x2 ++ (x3 ++ (b ++ 63 :: 62 :: r)))) ∧ Gm verB bVER x1 ∧ (x2 = [] ∨ Gm encB bENC x2) ∧ (x3 = [] ∨ Gm staB bSTA x3) ∧ Bk b
theorem decl_to {s : ByteArray} (h : ¬ declN s = 0) : ∃ r, Dc (li s) r ∧ declN s + r.length = s.size := by
  unfold declN at h ⊢
  split at h
  · rename_i hc
    rw [if_pos hc]
    simp only [Bool.and_eq_true] at hc
    obtain ⟨h0, h1, h4⟩ := hc
    have p0 := (cp_iff s bXML (cpB s bXML).1).1 (by rw [← h0])
    obtain ⟨x1, g1, e1⟩ := set_to (r := (dr1 s).1) (show dr1 s = _ by rw [← h1])
    have e2 : ∃ x2, (x2 = [] ∨ Gm encB bENC x2) ∧ li (dr1 s).1 = x2 ++ li (dr2 s).1 := by
      rcases set_cases encB bENC (dr1 s).1 with hh | hh
      · obtain ⟨x2, g2, e2⟩ := set_to hh
        exact ⟨x2, Or.inr g2, e2⟩
      · exact ⟨[], Or.inl rfl, by rw [show dr2 s = _ from hh]; rfl⟩
    obtain ⟨x2, g2, e2⟩ := e2
    have e3 : ∃ x3, (x3 = [] ∨ Gm staB bSTA x3) ∧ li (dr2 s).1 = x3 ++ li (dr3 s).1 := by
      rcases set_cases staB bSTA (dr2 s).1 with hh | hh
      · obtain ⟨x3, g3, e3⟩ := set_to hh
        exact ⟨x3, Or.inr g3, e3⟩
      · exact ⟨[], Or.inl rfl, by rw [show dr3 s = _ from hh]; rfl⟩
    obtain ⟨x3, g3, e3⟩ := e3
    obtain ⟨b, hb, e4⟩ := tl_split (dr3 s).1
    have p4 := (cp_iff (tlB (dr3 s).1) bSHUT (dr4 s).1).1 (show dr4 s = _ by rw [← h4])
    refine ⟨li (dr4 s).1, ⟨x1, x2, x3, b, ?_, g1, g2, g3, hb⟩, ?_⟩
    · rw [p0, e1, e2, e3, e4, p4]
      rfl
    · rw [tl_len]
      have l4 := congrArg List.length p0
      rw [e1, e2, e3, e4, p4] at l4
      simp only [List.length_append, tl_len] at l4
      omega
  · exact absurd rfl h
theorem decl_of {s : ByteArray} {r : List UInt8} (h : Dc (li s) r) : declN s + r.length = s.size ∧ ¬ declN s = 0 := by
  obtain ⟨x1, x2, x3, b, e, g1, g2, g3, hb⟩ := h
  have p0 : cpB s bXML = (bs (x1 ++ (x2 ++ (x3 ++ (b ++ 63 :: 62 :: r)))), true) := (cp_iff _ _ _).2 (by rw [e, show li (bs _) = _ from bs_list _])
  have p1 : dr1 s = (bs (x2 ++ (x3 ++ (b ++ 63 :: 62 :: r))), true) := by
    unfold dr1
    rw [p0]
    exact set_of g1 (by rw [show li (bs _) = _ from bs_list _, show li (bs _) = _ from bs_list _]) (n0 := 118) rfl (by decide)
  have p3' : ∀ u : ByteArray, li u = x3 ++ (b ++ 63 :: 62 :: r) → (setB staB bSTA u).1 = bs (b ++ 63 :: 62 :: r) := by
    intro u hu
    rcases g3 with rfl | g3
    · rw [List.nil_append] at hu
      rw [set_no hu hb (by decide) (n0 := 115) rfl (by decide)]
      apply ba_ext
      rw [bs_list]; exact hu
    · rw [set_of (r := bs (b ++ 63 :: 62 :: r)) g3 (by rw [hu, show li (bs _) = _ from bs_list _]) (n0 := 115) rfl (by decide)]
  have first : ∃ b' c l', x3 ++ (b ++ 63 :: 62 :: r) = b' ++ c :: l' ∧ Bk b' ∧ BLs.contains c = false ∧ c ≠ 101 := by
    rcases g3 with rfl | ⟨b1, b2, b3, q, v, rfl, _, hb1, _⟩
    · exact ⟨b, 63, 62 :: r, rfl, hb, by decide, by decide⟩
    · exact ⟨b1, 115, _, by rw [List.append_assoc, List.append_assoc]; rfl, hb1, by decide, by decide⟩
  have p2 : (dr2 s).1 = bs (x3 ++ (b ++ 63 :: 62 :: r)) := by
    unfold dr2
    rw [p1]
    dsimp only
    rcases g2 with rfl | g2
    · rw [List.nil_append]
      obtain ⟨b', c, l', e', hb', hc', hne⟩ := first
      rw [set_no (s := bs (x3 ++ (b ++ 63 :: 62 :: r))) ((bs_list _).trans e') hb' hc' (n0 := 101) rfl hne]
    · rw [set_of (r := bs (x3 ++ (b ++ 63 :: 62 :: r))) g2 (by rw [show li (bs _) = _ from bs_list _, show li (bs _) = _ from bs_list _]) (n0 := 101) rfl (by decide)]
  have p3 : (dr3 s).1 = bs (b ++ 63 :: 62 :: r) := by
    unfold dr3
    rw [p2]
    exact p3' _ (bs_list _)
  have p4 : dr4 s = (bs r, true) := by
    unfold dr4
    rw [p3]
    exact (cp_iff _ _ _).2 (by rw [tl_of (bs_list _) hb (by decide), show li (bs _) = _ from bs_list _]; rfl)
  have hd : declN s = s.size - (bs r).size := by
    unfold declN
    rw [p0, p1, p4]
    rfl
  have l1 := congrArg List.length e
  rw [tl_len] at l1
  simp only [List.length_append, List.length_cons] at l1
  have l2 : (bs r).size = r.length := by rw [← tl_len, bs_list]
  rw [hd, l2]
  omega
end Go.Proofs.YtchfphakhmifmaaGreatDoor
