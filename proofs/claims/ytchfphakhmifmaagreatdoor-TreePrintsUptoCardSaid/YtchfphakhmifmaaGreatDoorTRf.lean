/- The document's checker: has, chars, fault, Check. -/
import Derived.Test.YtchfphakhmifmaaGreatDoorTPw
import Derived.Test.YtchfphakhmifmaaGreatDoorMR
namespace Go.Proofs.YtchfphakhmifmaaGreatDoor
open Go.ChangeShapes Go.WideShapes Go.ChangeAt Go.RowKit Go.Lib

set_option maxHeartbeats 2000000 in
theorem refHasN_any (l : List Att) (n : Nat) (hn : n ≤ l.length) (pa : Option Addr) (ca : Nat) (nm : ByteArray) (w : World) (ha : ARow w pa w.heap.size l) (hl : l.length ≤ 1048576) :
    Calls Tryz.prog 45 #[.slice pa l.length ca, .int .i64 (n : Int), .string nm] w fun e w' => e = .returned (.bool (hasA (l.take n) nm)) ∧ ∃ m, w' = w.drewN m := by
  have hln : (l.take n).length = n := by rw [List.length_take]; omega
  go_enter Tryz.func45, Tryz.ntmps45
  go_wp2_with fail
  go_loopw [7] (fun i wr => ∃ (j d : Nat), j ≤ n ∧ i = .int .i64 j ∧ Hid (wr = w.drewN d) ∧ Hid (hasA (l.take n) nm = hasA ((l.take n).drop j) nm)) (fun i _ => n - (RowKit.intOf i).toNat)
  case atStart => exact ⟨0, 0, Nat.zero_le _, by go_num, Hid.mkA rfl, Hid.mkA rfl⟩
  case round =>
    obtain ⟨j, d, hj, rfl, hd, hq⟩ := hrel
    by_cases hlt : j < n
    · obtain ⟨a, hx⟩ : ∃ a, (l.take n)[j]? = some a := ⟨(l.take n)[j]'(by omega), List.getElem?_eq_getElem (by omega)⟩
      obtain ⟨g, o, rfl, hg, q0, q1, q2⟩ := (ha.front n).c j a hx
      have r0 : wr.cell? ⟨g, o + j * 3, none⟩ = some (.string a.nm) := by rw [hd.out]; exact q0
      have hlti : (j : Int) < n := by omega
      have hltl : (j : Int) < l.length := by omega
      have hdr := hasA_drop hx nm
      clear q0 q1 q2 ha hx
      by_cases hne : a.nm = nm
      · have HX : Hid (hasA (l.take n) nm = true) := Hid.mkA (by rw [hq.out, hdr, decide_eq_true hne]; rfl)
        subst hne
        clear hq hdr
        go_wp2_with fail
        go_ret
        exact ⟨by rw [HX.out]; rfl, d, hd.out⟩
      · have HX : Hid (hasA (l.take n) nm = hasA ((l.take n).drop (j + 1)) nm) := Hid.mkA (by rw [hq.out, hdr, decide_eq_false hne]; rfl)
        have z := beq_ba hne
        clear hq hdr hne
        go_wp2_with fail
        go_roundw
        case rel => exact ⟨j + 1, d, by omega, by go_num, hd, HX⟩
        case measure => simp [RowKit.intOf]; omega
    · obtain rfl : j = n := by omega
      have HX : Hid (hasA (l.take j) nm = false) := Hid.mkA (by rw [hq.out, List.drop_eq_nil_of_le (by omega)]; rfl)
      clear hq
      go_wp2_with fail
      go_ret
      exact ⟨by rw [HX.out]; rfl, d, hd.out⟩
theorem refCharsB (s : ByteArray) (w : World) (hs : s.size ≤ 9223372036854775806) : Calls Tryz.prog 44 #[.string s] w fun e w' => e = .returned (.bool (chrB s)) ∧ Below w.heap.size w w' := by
  have c := rChars s w hs
  unfold chrB
  generalize faultN xmlB s = p at c ⊢
  obtain ⟨a, b⟩ := p
  simp only at c ⊢
  by_cases h : a = 0
  · subst h
    go_enter Tryz.func44, Tryz.ntmps44
    go_wp2_with (go_at_call 41; refine c.mono ?_; rintro _ w1 ⟨rfl, hb⟩)
    go_ret
    exact ⟨rfl, hb⟩
  · have z : ((a : Int) == 0) = false := beq_eq_false_iff_ne.2 (by omega)
    have z2 : decide (a = 0) = false := decide_eq_false h
    rw [z2]
    go_enter Tryz.func44, Tryz.ntmps44
    go_wp2_with (go_at_call 41; refine c.mono ?_; rintro _ w1 ⟨rfl, hb⟩)
    go_ret
    exact ⟨by first | rfl | simp [z], hb⟩
theorem ent_has05 : ∀ ag w, (callFunc 45 ag).run Tryz.prog w = .ok (.enter 45 ag) w := enters_of Tryz.func45 (by kernel_rfl) rfl
set_option maxRecDepth 100000 in
set_option maxHeartbeats 16000000 in
theorem refFault0 (es : List El) (e : El) (pp : Option Addr) (cp : Nat) (w : World) (hr : ERow w pp w.heap.size es) (hz : PSz es) (hx : es[0]? = some e) :
    Calls Tryz.prog 25 #[.slice pp es.length cp, .int .i64 (0)] w fun r w' => r = .returned (.int .i64 (elE 0 0 e : Int)) ∧ Below w.heap.size w w' := by
  obtain ⟨hil, -⟩ := List.getElem?_eq_some_iff.1 hx
  have hn := hz.n
  obtain ⟨z1, z2, z3, z4⟩ := hz.s e (List.mem_of_getElem? hx)
  have hd := hz.d e (List.mem_of_getElem? hx)
  obtain ⟨g, o, pa, ca, rfl, hg, q0, q1, q2, q3, q4, hA⟩ := hr.c 0 e hx
  rw [Nat.zero_mul, Nat.add_zero] at q0 q1 q2 q3 q4
  have hb0 := bel1 w (elB e (.slice pa e.ats.length ca))
  have hN := aheap_new w (elB e (.slice pa e.ats.length ca))
  have hsz : w.heap.size < (w.alloc (elB e (.slice pa e.ats.length ca))).heap.size := by rw [World.size_alloc]; omega
  generalize hW : w.alloc (elB e (.slice pa e.ats.length ca)) = W at hb0 hN hsz
  have HC : Hid (∀ W', Below W.heap.size W W' → W'.cell? ⟨w.heap.size, 2, none⟩ = some (.slice pa e.ats.length ca) ∧ W'.cell? ⟨w.heap.size, 3, none⟩ = some (.string e.tx)) := Hid.mkA fun W' h => by
    have hh := (h.block w.heap.size hsz).trans hN
    exact ⟨by simp only [World.cell?, hh]; rfl, by simp only [World.cell?, hh]; rfl⟩
  have c0 : W.cell? ⟨w.heap.size, 0, none⟩ = some (.int .i64 e.d) := by simp only [World.cell?, hN]; rfl
  have c1 : W.cell? ⟨w.heap.size, 1, none⟩ = some (.string e.nm) := by simp only [World.cell?, hN]; rfl
  obtain ⟨c2, c3⟩ := HC.out W (Below.refl _ _)
  have cX := fun W => rXMLName e.nm (by omega) W
  have cC := fun W => refCharsB e.tx W (by omega)
  have HB := Hid.mkA hb0
  have HAr : Hid (∀ W', Below W.heap.size W W' → ARow W' pa w.heap.size e.ats) := Hid.mkA fun W' h => hA.below (hb0.trans (h.mono hb0.size))
  have hili : 0 < (es.length : Int) := by omega
  clear hN hsz hr hb0 hA hx hz
  obtain ⟨xd, xn, xa, xt, xp⟩ := e
  simp only at q0 q1 q2 q3 q4 c0 c1 c2 c3 cX cC hW HC HAr hd z1 z2 z3 z4 ⊢
  unfold elE
  simp only
  by_cases g1 : xd < 1
  · rw [if_pos (.inl g1)]
    clear cX cC HC HAr z4
    go_enter Tryz.func25, Tryz.ntmps25
    go_wp2_with fail
    go_ret
    exact ⟨rfl, HB.out⟩
  by_cases g2 : 0 + 1 < xd
  · rw [if_pos (.inr g2)]
    clear cX cC HC HAr z4
    go_enter Tryz.func25, Tryz.ntmps25
    go_wp2_with fail
    go_ret
    exact ⟨rfl, HB.out⟩
  rw [if_neg (by omega)]
  obtain rfl : xd = 1 := by omega
  rw [if_neg (by omega), if_neg (by omega), if_neg (by omega)]
  cases hX : xmlNameB xn
  · rw [hX] at cX
    rw [if_pos rfl]
    clear cC HC HAr z4
    go_enter Tryz.func25, Tryz.ntmps25
    go_wp2_with (go_at_call 43; refine (cX _).mono ?_; rintro _ w1 ⟨rfl, hb1⟩)
    go_ret
    exact ⟨rfl, HB.out.trans (hb1.mono HB.out.size)⟩
  rw [hX] at cX
  rw [if_neg (by decide)]
  by_cases g7 : 24 < xa.length
  · rw [if_pos g7]
    have g7' : (24 : Int) < xa.length := by omega
    clear cC HAr z4
    go_enter Tryz.func25, Tryz.ntmps25
    go_wp2_with (go_at_call 43; refine (cX _).mono ?_; rintro _ w1 ⟨rfl, hb1⟩; obtain ⟨x2, x3⟩ := HC.out w1 hb1)
    go_ret
    exact ⟨rfl, HB.out.trans (hb1.mono HB.out.size)⟩
  rw [if_neg g7]
  have g7' : decide ((24 : Int) < xa.length) = false := decide_eq_false (by omega)
  obtain ⟨Z, hZ⟩ : ∃ Z : Nat, (if atE [] xa ≠ 0 then atE [] xa else if chrB xt = true then 0 else 55) = Z := ⟨_, rfl⟩
  rw [hZ]
  have HErr : Hid (∀ er : Nat, atE [] xa = er → er ≠ 0 → (Z = er ∧ ∀ W', Below W.heap.size W W' → Below w.heap.size w W')) := Hid.mkA fun er h1 h2 => ⟨by rw [← hZ, h1, if_pos h2], fun W' h => HB.out.trans (h.mono HB.out.size)⟩
  have HFin : Hid (atE [] xa = 0 → (chrB xt = false → Z = 55) ∧ (chrB xt = true → Z = 0)) := Hid.mkA fun h => ⟨fun h2 => by rw [← hZ, h, h2]; rfl, fun h2 => by rw [← hZ, h, h2]; rfl⟩
  clear hZ
  clear g7
  go_enter Tryz.func25, Tryz.ntmps25
  go_wp2_with (go_at_call 43; refine (cX _).mono ?_; rintro _ wN ⟨rfl, hbN⟩; obtain ⟨x2, x3⟩ := HC.out wN hbN)
  clear cX c0 c1 c2 c3 hW x2 x3
  go_loopw [8] (fun i wr => ∃ j : Nat, j ≤ xa.length ∧ i = .int .i64 j ∧ Below W.heap.size W wr ∧ Hid (atE [] xa = atE (xa.take j) (xa.drop j))) (fun i _ => xa.length - (RowKit.intOf i).toNat)
  case atStart => exact ⟨0, Nat.zero_le _, rfl, hbN, Hid.mkA rfl⟩
  case round =>
    obtain ⟨j, hj, rfl, hb, hq⟩ := hrel
    obtain ⟨y2, y3⟩ := HC.out wr hb
    by_cases hlt : j < xa.length
    · obtain ⟨a, hx⟩ : ∃ a, xa[j]? = some a := ⟨xa[j], List.getElem?_eq_getElem hlt⟩
      obtain ⟨g, o, rfl, hg, q0, q1, q2⟩ := (HAr.out wr hb).c j a hx
      have hlti : (j : Int) < xa.length := by omega
      obtain ⟨z1, z2⟩ := z4 a (List.mem_of_getElem? hx)
      have hA0 := atE_at hx
      have hb1 := bel1 wr (attO a)
      have hNn := aheap_new wr (attO a)
      have HW : Hid (∀ W', Below (wr.alloc (attO a)).heap.size (wr.alloc (attO a)) W' → Below W.heap.size W W' ∧ W'.cell? ⟨wr.heap.size, 0, none⟩ = some (.string a.nm) ∧ W'.cell? ⟨wr.heap.size, 1, none⟩ = some (.string a.vl)) := Hid.mkA fun W' h => by
        have hh := (h.block wr.heap.size (by rw [World.size_alloc]; omega)).trans hNn
        exact ⟨hb.trans ((hb1.trans (h.mono hb1.size)).mono hb.size), by simp only [World.cell?, hh]; rfl, by simp only [World.cell?, hh]; rfl⟩
      obtain ⟨-, n0, n1⟩ := HW.out _ (Below.refl _ _)
      have cX2 := fun W' => rXMLName a.nm (by omega) W'
      have cC2 := fun W' => refCharsB a.vl W' (by omega)
      have cH2 : Hid (∀ W', Below W.heap.size W W' → Calls Tryz.prog 45 #[.slice (some ⟨g, o, none⟩) xa.length ca, .int .i64 (j : Int), .string a.nm] W' fun e w' => e = .returned (.bool (hasA (xa.take j) a.nm)) ∧ ∃ m, w' = W'.drewN m) := Hid.mkA fun W' h => refHasN_any xa j hj _ ca a.nm W' ((HAr.out W' h).mono (Nat.le_trans HB.out.size h.size)) (by omega)
      clear hx hb1 hNn
      obtain ⟨an, av, ap⟩ := a
      simp only at q0 q1 q2 n0 n1 cX2 cC2 cH2 HW hA0
      cases hX2 : xmlNameB an
      · rw [hX2] at cX2 hA0
        have HX : Hid (atE [] xa = 55) := Hid.mkA (by rw [hq.out, hA0]; simp)
        clear hA0 hq cH2 cC2
        go_wp2_with (go_at_call 43; refine (cX2 _).mono ?_; rintro _ w1 ⟨rfl, hb1⟩)
        go_ret
        exact ⟨by rw [(HErr.out 55 HX.out (by decide)).1]; rfl, (HErr.out 55 HX.out (by decide)).2 _ (HW.out _ hb1).1⟩
      · rw [hX2] at cX2 hA0
        cases hC2 : chrB av
        · rw [hC2] at cC2 hA0
          have HX : Hid (atE [] xa = 55) := Hid.mkA (by rw [hq.out, hA0]; simp)
          clear hA0 hq cH2
          go_wp2_with (go_at_call 43; refine (cX2 _).mono ?_; rintro _ w1 ⟨rfl, hb1⟩; obtain ⟨k0, k1, k2⟩ := HW.out w1 hb1)
          refine (cC2 _).mono ?_
          rintro _ w2 ⟨rfl, hb2⟩
          go_wp2_with fail
          go_ret
          exact ⟨by rw [(HErr.out 55 HX.out (by decide)).1]; rfl, (HErr.out 55 HX.out (by decide)).2 _ (HW.out _ (hb1.trans (hb2.mono hb1.size))).1⟩
        · rw [hC2] at cC2 hA0
          simp only [if_true, and_self] at hA0
          cases hh : hasA (xa.take j) an
          · rw [hh] at cH2 hA0
            have HX : Hid (atE [] xa = atE (xa.take (j + 1)) (xa.drop (j + 1))) := Hid.mkA (by rw [hq.out, hA0]; simp)
            clear hA0 hq
            go_wp2_with (go_at_call 43; refine (cX2 _).mono ?_; rintro _ w1 ⟨rfl, hb1⟩; obtain ⟨k0, k1, k2⟩ := HW.out w1 hb1)
            refine (cC2 _).mono ?_
            rintro _ w2 ⟨rfl, hb2⟩
            obtain ⟨l0, l1, l2⟩ := HW.out w2 (hb1.trans (hb2.mono hb1.size))
            obtain ⟨x2, x3⟩ := HC.out w2 l0
            have cH3 := cH2.out w2 l0
            clear cX2 cC2 HW k0 k1 k2 hb1 hb2 n0 n1 y2 y3
            go_wp2_with (go_at_call 45; refine cH3.mono ?_; rintro _ _ ⟨rfl, m, rfl⟩)
            go_roundw
            case rel => exact ⟨j + 1, by omega, by go_num, tdr l0, HX⟩
            case measure => simp [RowKit.intOf]; omega
          · rw [hh] at cH2 hA0
            have HX : Hid (atE [] xa = 52) := Hid.mkA (by rw [hq.out, hA0]; simp)
            clear hA0 hq
            go_wp2_with (go_at_call 43; refine (cX2 _).mono ?_; rintro _ w1 ⟨rfl, hb1⟩; obtain ⟨k0, k1, k2⟩ := HW.out w1 hb1)
            refine (cC2 _).mono ?_
            rintro _ w2 ⟨rfl, hb2⟩
            obtain ⟨l0, l1, l2⟩ := HW.out w2 (hb1.trans (hb2.mono hb1.size))
            obtain ⟨x2, x3⟩ := HC.out w2 l0
            have cH3 := cH2.out w2 l0
            clear cX2 cC2 HW k0 k1 k2 hb1 hb2 n0 n1 y2 y3
            go_wp2_with (go_at_call 45; refine cH3.mono ?_; rintro _ _ ⟨rfl, m, rfl⟩)
            go_ret
            exact ⟨by rw [(HErr.out 52 HX.out (by decide)).1]; rfl, (HErr.out 52 HX.out (by decide)).2 _ (tdr l0)⟩
    · obtain rfl : j = xa.length := by omega
      have HX : Hid (atE [] xa = 0) := Hid.mkA (by rw [hq.out]; simp [atE])
      have hlt2 : ¬ ((xa.length : Int) < xa.length) := by omega
      clear hq
      cases hC3 : chrB xt
      · rw [hC3] at cC
        go_wp2_with (go_at_call 44; refine (cC _).mono ?_; rintro _ w2 ⟨rfl, hb2⟩)
        go_ret
        exact ⟨by rw [(HFin.out HX.out).1 hC3]; rfl, HB.out.trans ((hb.trans (hb2.mono hb.size)).mono HB.out.size)⟩
      · rw [hC3] at cC
        go_wp2_with (go_at_call 44; refine (cC _).mono ?_; rintro _ w2 ⟨rfl, hb2⟩)
        go_ret
        exact ⟨by rw [(HFin.out HX.out).2 hC3]; rfl, HB.out.trans ((hb.trans (hb2.mono hb.size)).mono HB.out.size)⟩
end Go.Proofs.YtchfphakhmifmaaGreatDoor
