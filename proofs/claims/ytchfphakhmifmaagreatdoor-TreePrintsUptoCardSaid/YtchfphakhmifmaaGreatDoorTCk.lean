/- The tree's checker: isChars, checkAttrs, checkElem, Check. -/
import Derived.Test.YtchfphakhmifmaaGreatDoorPB
import Derived.Test.YtchfphakhmifmaaGreatDoorMB
import Derived.BigRegion
import Derived.Deep.RegionLaw
namespace Go.Proofs.YtchfphakhmifmaaGreatDoor
open Go.ChangeShapes Go.WideShapes Go.ChangeAt Go.RowKit Go.Lib

theorem isChars_any (s : ByteArray) (w : World) (hs : s.size ≤ 9223372036854775807) : Calls Tryz.prog 50 #[.string s] w fun e w' => e = .returned (.bool (chrB s)) ∧ Below w.heap.size w w' := by
  have c := Chars_all s w hs
  unfold chrB
  generalize faultN xmlB s = p at c ⊢
  obtain ⟨a, b⟩ := p
  simp only at c ⊢
  by_cases h : a = 0
  · subst h
    go_enter Tryz.func50, Tryz.ntmps50
    go_wp2_with (go_at_call 75; refine c.mono ?_; rintro _ w1 ⟨rfl, hb⟩)
    go_ret
    exact ⟨rfl, hb⟩
  · have z : ((a : Int) == 0) = false := beq_eq_false_iff_ne.2 (by omega)
    have z2 : decide (a = 0) = false := decide_eq_false h
    rw [z2]
    go_enter Tryz.func50, Tryz.ntmps50
    go_wp2_with (go_at_call 75; refine c.mono ?_; rintro _ w1 ⟨rfl, hb⟩)
    go_ret
    exact ⟨by first | rfl | simp [z], hb⟩
theorem ARow.front {w : World} {pa : Option Addr} {H : Nat} {l : List Att} (h : ARow w pa H l) (n : Nat) : ARow w pa H (l.take n) :=
  ⟨fun i t ht => h.c i t (by
    have hi : i < (l.take n).length := (List.getElem?_eq_some_iff.1 ht).1
    rw [List.length_take] at hi
    rw [List.getElem?_take_of_lt (by omega)] at ht
    exact ht)⟩
theorem atE_at {l : List Att} {j : Nat} {a : Att} (h : l[j]? = some a) : atE (l.take j) (l.drop j) = (if xmlNameB a.nm = true ∧ chrB a.vl = true then (if hasA (l.take j) a.nm = true then 52 else atE (l.take (j + 1)) (l.drop (j + 1))) else 55) := by
  obtain ⟨hl, e⟩ := List.getElem?_eq_some_iff.1 h
  rw [List.drop_eq_getElem_cons hl, e, atE, List.take_add_one, h]
  rfl
theorem ent_hasAttrC : ∀ ag w, (callFunc 74 ag).run Tryz.prog w = .ok (.enter 74 ag) w := enters_of Tryz.func74 (by kernel_rfl) rfl
set_option maxRecDepth 100000 in
set_option maxHeartbeats 4000000 in
theorem checkAttrs_any (l : List Att) (pa : Option Addr) (ca : Nat) (w : World) (ha : ARow w pa w.heap.size l) (hl : l.length ≤ 1000000) (hca : l.length ≤ ca) (hz : ∀ a ∈ l, a.nm.size ≤ 16777216 ∧ a.vl.size ≤ 16777216) :
    Calls Tryz.prog 49 #[.slice pa l.length ca] w fun e w' => e = .returned (.int .i64 (atE [] l : Int)) ∧ Below w.heap.size w w' := by
  go_enter Tryz.func49, Tryz.ntmps49
  go_wp2_with fail
  go_loopw [7] (fun n wr => ∃ j : Nat, j ≤ l.length ∧ n = .int .i64 j ∧ Below w.heap.size w wr ∧ atE [] l = atE (l.take j) (l.drop j)) (fun n _ => l.length - (RowKit.intOf n).toNat)
  case atStart => exact ⟨0, Nat.zero_le _, by go_num, Below.refl _ _, rfl⟩
  case round =>
    obtain ⟨j, hj, rfl, hb, hq⟩ := hrel
    by_cases hlt : j < l.length
    · obtain ⟨a, hx⟩ : ∃ a, l[j]? = some a := ⟨l[j], List.getElem?_eq_getElem hlt⟩
      obtain ⟨g, o, rfl, hg, q0, q1, q2⟩ := ha.c j a hx
      have r0 := (hb.cell (p := ⟨g, _, none⟩) hg).trans q0
      have r1 := (hb.cell (p := ⟨g, _, none⟩) hg).trans q1
      have r2 := (hb.cell (p := ⟨g, _, none⟩) hg).trans q2
      have hlti : (j : Int) < l.length := by omega
      rw [atE_at hx] at hq
      obtain ⟨z1, z2⟩ := hz a (List.mem_of_getElem? hx)
      have hb1 : Below wr.heap.size wr (wr.alloc (.cells #[.string a.nm, .string a.vl, .int .i64 a.p] 58)) := bel1 wr _
      have hN := aheap_new wr (.cells #[.string a.nm, .string a.vl, .int .i64 a.p] 58)
      have n0 : (wr.alloc (.cells #[.string a.nm, .string a.vl, .int .i64 a.p] 58)).cell? ⟨wr.heap.size, 0, none⟩ = some (.string a.nm) := by simp only [World.cell?, hN]; rfl
      have n1 : (wr.alloc (.cells #[.string a.nm, .string a.vl, .int .i64 a.p] 58)).cell? ⟨wr.heap.size, 1, none⟩ = some (.string a.vl) := by simp only [World.cell?, hN]; rfl
      have cX := fun W => XMLName_any a.nm (by omega) W
      have cC := fun W => isChars_any a.vl W (by omega)
      have HA : Hid (∀ W, Below wr.heap.size wr W → ARow W (some ⟨g, o, none⟩) W.heap.size (l.take j) ∧ Below w.heap.size w W) := Hid.mkA fun W hW => ⟨((ha.below (hb.trans (hW.mono hb.size))).mono (Nat.le_trans hb.size hW.size)).front j, hb.trans (hW.mono hb.size)⟩
      clear q0 q1 q2 hx hz ha
      obtain ⟨an, av, ap⟩ := a
      simp only at r0 r1 r2 n0 n1 cX cC hq hN hb1 z1 z2 ⊢
      cases hX : xmlNameB an
      · rw [hX] at cX hq
        have HX : Hid (atE [] l = 55) := Hid.mkA (by rw [hq]; simp)
        have HB := Hid.mkA hb1
        clear hq hb1 hN
        go_wp2_with (go_at_call 48; refine (cX _).mono ?_; rintro _ w1 ⟨rfl, rfl⟩)
        go_ret
        exact ⟨by rw [HX.out]; rfl, (HA.out _ HB.out).2⟩
      · rw [hX] at cX hq
        cases hC : chrB av
        · rw [hC] at cC hq
          have HX : Hid (atE [] l = 55) := Hid.mkA (by rw [hq]; simp)
          have HB := Hid.mkA hb1
          clear hq hb1 hN
          go_wp2_with (first | (go_at_call 48; refine (cX _).mono ?_; rintro _ w1 ⟨rfl, rfl⟩) | (go_at_call 50; refine (cC _).mono ?_; rintro _ w2 ⟨rfl, hb2⟩))
          go_ret
          exact ⟨by rw [HX.out]; rfl, (HA.out _ (HB.out.trans (hb2.mono HB.out.size))).2⟩
        · rw [hC] at cC hq
          have HB := Hid.mkA hb1
          have hjca : (j : Int) ≤ ca := by omega
          have hjca2 : j ≤ ca := by omega
          have hlen : (l.take j).length = j := by rw [List.length_take]; omega
          have HN : Hid (∀ W, Below (wr.alloc (.cells #[.string an, .string av, .int .i64 ap] 58)).heap.size (wr.alloc (.cells #[.string an, .string av, .int .i64 ap] 58)) W → W.cell? ⟨wr.heap.size, 0, none⟩ = some (.string an)) := Hid.mkA fun W hW => (hW.cell (p := ⟨wr.heap.size, 0, none⟩) (by rw [World.size_alloc]; show wr.heap.size < _; omega)).trans n0
          have HH : Hid (∀ W, Below wr.heap.size wr W → Calls Tryz.prog 74 #[.slice (some ⟨g, o, none⟩) j ca, .string an] W.drew fun r w' => ∃ u, r = .returned u ∧ (u = .bool (hasA (l.take j) an) ∧ Below W.heap.size W w')) := Hid.mkA fun W hW => by
            have := hasAttr_any (l.take j) (some ⟨g, o, none⟩) ca an W.drew (((HA.out W hW).1).below (w' := W.drew) ⟨rfl, rfl, rfl, Nat.le_refl _, fun _ _ => rfl⟩) (by omega)
            rw [hlen] at this
            exact this.mono fun r w' q => ⟨_, q.1, rfl, ⟨q.2.os, q.2.tape, q.2.output, q.2.size, q.2.block⟩⟩
          simp only [if_true, and_self] at hq
          cases hh : hasA (l.take j) an
          · rw [hh] at HH hq
            have HX : Hid (atE [] l = atE (l.take (j + 1)) (l.drop (j + 1))) := Hid.mkA (by rw [hq]; simp)
            clear hq hb1 hN
            go_wp2_with (first | (go_at_call 48; refine (cX _).mono ?_; rintro _ w1 ⟨rfl, rfl⟩) | (go_at_call 50; refine (cC _).mono ?_; rintro _ w2 ⟨rfl, hb2⟩))
            have m0 := HN.out w2 hb2
            have hb3 := HB.out.trans (hb2.mono HB.out.size)
            have cH := HH.out w2 hb3
            go_region_law (refine xstep2 ?_ _ (.tmp 24) (.tmp 26) #[54, 9] ?_ ent_hasAttrC _ _ ?_ ?_ _ cH ?_; rfl; rfl; rfl; rfl; rintro _ w3 ⟨rfl, hB3⟩)
            all_goals
              go_wp2_with fail
              go_roundw
              case rel => exact ⟨j + 1, by omega, by go_num, (HA.out _ (hb3.trans (hB3.mono hb3.size))).2, HX.out⟩
              case measure => simp [RowKit.intOf]; omega
          · rw [hh] at HH hq
            have HX : Hid (atE [] l = 52) := Hid.mkA (by rw [hq]; simp)
            clear hq hb1 hN
            go_wp2_with (first | (go_at_call 48; refine (cX _).mono ?_; rintro _ w1 ⟨rfl, rfl⟩) | (go_at_call 50; refine (cC _).mono ?_; rintro _ w2 ⟨rfl, hb2⟩))
            have m0 := HN.out w2 hb2
            have hb3 := HB.out.trans (hb2.mono HB.out.size)
            have cH := HH.out w2 hb3
            go_region_law (refine xstep2 ?_ _ (.tmp 24) (.tmp 26) #[54, 9] ?_ ent_hasAttrC _ _ ?_ ?_ _ cH ?_; rfl; rfl; rfl; rfl; rintro _ w3 ⟨rfl, hB3⟩)
            all_goals
              go_wp2_with fail
              go_ret
              exact ⟨by rw [HX.out]; rfl, (HA.out _ (hb3.trans (hB3.mono hb3.size))).2⟩
    · obtain rfl : j = l.length := by omega
      have HX : Hid (atE [] l = 0) := Hid.mkA (by rw [hq]; simp [atE])
      clear hq
      go_wp2_with fail
      go_ret
      exact ⟨by rw [HX.out]; rfl, hb⟩
set_option maxRecDepth 100000 in
set_option maxHeartbeats 8000000 in
theorem checkElem_any (n : Nat) (e : El) (ahead : Int) (pa : Option Addr) (ca : Nat) (w : World) (ha : ARow w pa w.heap.size e.ats) (hca : e.ats.length ≤ ca) (hz : e.nm.size ≤ 16777216 ∧ e.tx.size ≤ 16777216 ∧ e.ats.length ≤ 1048576 ∧ ∀ a ∈ e.ats, a.nm.size ≤ 16777216 ∧ a.vl.size ≤ 16777216) (hd : -9223372036854775808 ≤ e.d ∧ e.d ≤ 9223372036854775807) (hah : 0 ≤ ahead ∧ ahead ≤ 16) (hn : n ≤ 1048576) :
    Calls Tryz.prog 27 #[.int .i64 (n : Int), .agg #[.int .i64 e.d, .string e.nm, .slice pa e.ats.length ca, .string e.tx, .int .i64 e.p], .int .i64 ahead] w fun r w' => r = .returned (.int .i64 (elE n ahead e : Int)) ∧ Below w.heap.size w w' := by
  obtain ⟨z1, z2, z3, z4⟩ := hz
  have hb0 := bel1 w (.cells #[.int .i64 e.d, .string e.nm, .slice pa e.ats.length ca, .string e.tx, .int .i64 e.p] 56)
  have hN := aheap_new w (.cells #[.int .i64 e.d, .string e.nm, .slice pa e.ats.length ca, .string e.tx, .int .i64 e.p] 56)
  have hsz : w.heap.size < (w.alloc (.cells #[.int .i64 e.d, .string e.nm, .slice pa e.ats.length ca, .string e.tx, .int .i64 e.p] 56)).heap.size := by rw [World.size_alloc]; omega
  generalize hW : w.alloc (.cells #[.int .i64 e.d, .string e.nm, .slice pa e.ats.length ca, .string e.tx, .int .i64 e.p] 56) = W at hb0 hN hsz
  have HC : Hid (∀ W', Below W.heap.size W W' → W'.cell? ⟨w.heap.size, 2, none⟩ = some (.slice pa e.ats.length ca) ∧ W'.cell? ⟨w.heap.size, 3, none⟩ = some (.string e.tx)) := Hid.mkA fun W' h => by
    have hh := (h.block w.heap.size hsz).trans hN
    exact ⟨by simp only [World.cell?, hh]; rfl, by simp only [World.cell?, hh]; rfl⟩
  have c0 : W.cell? ⟨w.heap.size, 0, none⟩ = some (.int .i64 e.d) := by simp only [World.cell?, hN]; rfl
  have c1 : W.cell? ⟨w.heap.size, 1, none⟩ = some (.string e.nm) := by simp only [World.cell?, hN]; rfl
  obtain ⟨c2, c3⟩ := HC.out W (Below.refl _ _)
  have hww : IntKind.i64.wrap (ahead + 1) = ahead + 1 := by rw [IntKind.wrap_i64]; omega
  have cX := fun W => XMLName_any e.nm (by omega) W
  have cC := fun W => isChars_any e.tx W (by omega)
  have HB := Hid.mkA hb0
  have cA := checkAttrs_any e.ats pa ca W ((ha.below hb0).mono hb0.size)
  clear hN hsz ha hb0
  obtain ⟨xd, xn, xa, xt, xp⟩ := e
  simp only at c0 c1 c2 c3 cX cC cA hW HC hd hca z1 z2 z3 z4 ⊢
  unfold elE
  simp only
  by_cases g1 : xd < 1
  · rw [if_pos (.inl g1)]
    clear cA cX cC HC
    go_enter Tryz.func27, Tryz.ntmps27
    go_wp2_with fail
    go_ret
    exact ⟨rfl, HB.out⟩
  by_cases g2 : ahead + 1 < xd
  · rw [if_pos (.inr g2)]
    clear cA cX cC HC
    go_enter Tryz.func27, Tryz.ntmps27
    go_wp2_with fail
    go_ret
    exact ⟨rfl, HB.out⟩
  rw [if_neg (by omega)]
  by_cases g3 : xd = 1 ∧ 0 < n
  · rw [if_pos g3]
    obtain ⟨rfl, g3⟩ := g3
    have g3' : (0 : Int) < n := by omega
    clear cA cX cC HC
    go_enter Tryz.func27, Tryz.ntmps27
    go_wp2_with fail
    go_ret
    exact ⟨rfl, HB.out⟩
  rw [if_neg g3]
  have hg3 : (xd == 1) = false ∨ (¬ (0 : Int) < n ∧ xd = 1) := by
    by_cases h : xd = 1
    · exact .inr ⟨by omega, h⟩
    · exact .inl (beq_eq_false_iff_ne.2 h)
  by_cases g4 : 16 < xd
  · rw [if_pos g4]
    have g6 : (xd == 1) = false := beq_eq_false_iff_ne.2 (by omega)
    clear cA cX cC HC hg3 g3
    go_enter Tryz.func27, Tryz.ntmps27
    go_wp2_with fail
    go_ret
    exact ⟨rfl, HB.out⟩
  rw [if_neg g4]
  by_cases g5 : 20000 ≤ n
  · rw [if_pos g5]
    have g5' : (20000 : Int) ≤ n := by omega
    have g6 : (xd == 1) = false := by
      rcases hg3 with h | ⟨h, _⟩
      · exact h
      · omega
    clear cA cX cC HC hg3 g3
    go_enter Tryz.func27, Tryz.ntmps27
    go_wp2_with fail
    go_ret
    exact ⟨rfl, HB.out⟩
  rw [if_neg g5]
  have g5' : ¬ (20000 : Int) ≤ n := by omega
  clear g3 g5
  cases hX : xmlNameB xn
  · rw [hX] at cX
    rw [if_pos rfl]
    clear cA cC HC
    rcases hg3 with h3 | ⟨h3, rfl⟩
    all_goals
      go_enter Tryz.func27, Tryz.ntmps27
      go_wp2_with (go_at_call 48; refine (cX _).mono ?_; rintro _ _ ⟨rfl, rfl⟩)
      go_ret
      exact ⟨rfl, HB.out⟩
  rw [hX] at cX
  rw [if_neg (by decide)]
  by_cases g7 : 24 < xa.length
  · rw [if_pos g7]
    have g7' : (24 : Int) < xa.length := by omega
    clear cA cC HC
    rcases hg3 with h3 | ⟨h3, rfl⟩
    all_goals
      go_enter Tryz.func27, Tryz.ntmps27
      go_wp2_with (go_at_call 48; refine (cX _).mono ?_; rintro _ _ ⟨rfl, rfl⟩)
      go_ret
      exact ⟨rfl, HB.out⟩
  rw [if_neg g7]
  have g7' : decide ((24 : Int) < xa.length) = false := decide_eq_false (by omega)
  replace cA := cA (by omega) hca z4
  generalize atE [] xa = er at cA ⊢
  clear g7 z4 hca hd z1 z2 z3 hah hn hX
  by_cases g8 : er = 0
  · subst g8
    simp only [ne_eq, not_true, if_false]
    generalize chrB xt = cb at cC ⊢
    cases cb
    all_goals
      rcases hg3 with h3 | ⟨h3, rfl⟩
      all_goals
        go_enter Tryz.func27, Tryz.ntmps27
        go_wp2_with (go_at_call 48; refine (cX _).mono ?_; rintro _ _ ⟨rfl, rfl⟩)
        refine cA.mono ?_
        rintro _ w1 ⟨rfl, hb1⟩
        obtain ⟨d2, d3⟩ := HC.out w1 hb1
        clear cA cX c0 c1 c2 c3
        go_wp2_with fail
        refine (cC _).mono ?_
        rintro _ w2 ⟨rfl, hb2⟩
        go_wp2_with fail
        go_ret
        exact ⟨rfl, HB.out.trans ((hb1.trans (hb2.mono hb1.size)).mono HB.out.size)⟩
  · rw [if_pos g8]
    have g8' : ((er : Int) != 0) = true := by rw [bne, beq_eq_false_iff_ne.2 (by omega)]; rfl
    have g8'' : ((er : Int) == 0) = false := beq_eq_false_iff_ne.2 (by omega)
    clear cC
    rcases hg3 with h3 | ⟨h3, rfl⟩
    all_goals
      go_enter Tryz.func27, Tryz.ntmps27
      go_wp2_with (go_at_call 48; refine (cX _).mono ?_; rintro _ _ ⟨rfl, rfl⟩)
      refine cA.mono ?_
      rintro _ w1 ⟨rfl, hb1⟩
      go_wp2_with fail
      go_ret
      exact ⟨rfl, HB.out.trans (hb1.mono HB.out.size)⟩
end Go.Proofs.YtchfphakhmifmaaGreatDoor
