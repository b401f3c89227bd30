/- The document's checker: fault of an element behind another, Check. -/
import Derived.Test.YtchfphakhmifmaaGreatDoorTRf
namespace Go.Proofs.YtchfphakhmifmaaGreatDoor
open Go.ChangeShapes Go.WideShapes Go.ChangeAt Go.RowKit Go.Lib

set_option maxRecDepth 100000 in
set_option maxHeartbeats 16000000 in
theorem refFaultS (es : List El) (i : Nat) (y : El) (e : El) (pp : Option Addr) (cp : Nat) (w : World) (hr : ERow w pp w.heap.size es) (hz : PSz es) (hx : es[(i + 1)]? = some e) (hy : es[i]? = some y) (hyd : 1 ≤ y.d ∧ y.d ≤ 16) :
    Calls Tryz.prog 25 #[.slice pp es.length cp, .int .i64 ((i : Int) + 1)] w fun r w' => r = .returned (.int .i64 (elE (i + 1) y.d e : Int)) ∧ Below w.heap.size w w' := by
  obtain ⟨hil, -⟩ := List.getElem?_eq_some_iff.1 hx
  have hn := hz.n
  obtain ⟨z1, z2, z3, z4⟩ := hz.s e (List.mem_of_getElem? hx)
  have hd := hz.d e (List.mem_of_getElem? hx)
  obtain ⟨g, o, pa, ca, rfl, hg, q0, q1, q2, q3, q4, hA⟩ := hr.c (i + 1) e hx
  have y0 : w.cell? ⟨g, o + i * 5, none⟩ = some (.int .i64 y.d) := by
    obtain ⟨g9, o9, _, _, e9, _, h9, _⟩ := hr.c i y hy
    cases e9
    exact h9
  have hb0 := bel1 w (elB e (.slice pa e.ats.length ca))
  have hN := aheap_new w (elB e (.slice pa e.ats.length ca))
  have hsz : w.heap.size < (w.alloc (elB e (.slice pa e.ats.length ca))).heap.size := by rw [World.size_alloc]; omega
  have y0W := (hb0.cell (p := ⟨g, _, none⟩) hg).trans y0
  generalize hW : w.alloc (elB e (.slice pa e.ats.length ca)) = W at hb0 hN hsz y0W
  have HC : Hid (∀ W', Below W.heap.size W W' → W'.cell? ⟨w.heap.size, 2, none⟩ = some (.slice pa e.ats.length ca) ∧ W'.cell? ⟨w.heap.size, 3, none⟩ = some (.string e.tx)) := Hid.mkA fun W' h => by
    have hh := (h.block w.heap.size hsz).trans hN
    exact ⟨by simp only [World.cell?, hh]; rfl, by simp only [World.cell?, hh]; rfl⟩
  have c0 : W.cell? ⟨w.heap.size, 0, none⟩ = some (.int .i64 e.d) := by simp only [World.cell?, hN]; rfl
  have c1 : W.cell? ⟨w.heap.size, 1, none⟩ = some (.string e.nm) := by simp only [World.cell?, hN]; rfl
  obtain ⟨c2, c3⟩ := HC.out W (Below.refl _ _)
  have cX := fun W => rXMLName e.nm (by omega) W
  have cC := fun W => refCharsB e.tx W (by omega)
  have HB := Hid.mkA hb0
  have HAr : Hid (∀ W', Below W.heap.size W W' → ARow W' pa w.heap.size e.ats) := Hid.mkA fun W' h => hA.below (hb0.trans (h.mono hb0.size))
  have hili : (i : Int) + 1 < (es.length : Int) := by omega
  have hw1 : IntKind.i64.wrap ((i : Int) + 1 - 1) = i := by rw [IntKind.wrap_i64]; omega
  have hw2 : IntKind.i64.wrap (y.d + 1) = y.d + 1 := by rw [IntKind.wrap_i64]; omega
  have hi0 : (0 : Int) < (i : Int) + 1 := by omega
  have hil2 : (i : Int) < es.length := by omega
  generalize y.d = yd at *
  clear hy
  clear hN hsz hr hb0 hA hx hz
  obtain ⟨xd, xn, xa, xt, xp⟩ := e
  simp only at q0 q1 q2 q3 q4 c0 c1 c2 c3 cX cC hW HC HAr hd z1 z2 z3 z4 ⊢
  unfold elE
  simp only
  by_cases g1 : xd < 1
  · rw [if_pos (.inl g1)]
    clear cX cC HC HAr z4
    go_enter Tryz.func25, Tryz.ntmps25
    go_wp2_with fail
    go_ret
    exact ⟨rfl, HB.out⟩
  by_cases g2 : yd + 1 < xd
  · rw [if_pos (.inr g2)]
    clear cX cC HC HAr z4
    go_enter Tryz.func25, Tryz.ntmps25
    go_wp2_with fail
    go_ret
    exact ⟨rfl, HB.out⟩
  rw [if_neg (by omega)]
  by_cases g3 : xd = 1
  · subst g3
    rw [if_pos ⟨rfl, by omega⟩]
    clear cX cC HC HAr z4
    go_enter Tryz.func25, Tryz.ntmps25
    go_wp2_with fail
    go_ret
    exact ⟨rfl, HB.out⟩
  rw [if_neg (by omega)]
  have g3' : (xd == 1) = false := beq_eq_false_iff_ne.2 g3
  by_cases g4 : 16 < xd
  · rw [if_pos g4]
    clear cX cC HC HAr z4
    go_enter Tryz.func25, Tryz.ntmps25
    go_wp2_with fail
    go_ret
    exact ⟨rfl, HB.out⟩
  rw [if_neg g4]
  by_cases g5 : 20000 ≤ i + 1
  · rw [if_pos g5]
    have g5' : (20000 : Int) ≤ (i : Int) + 1 := by omega
    clear cX cC HC HAr z4
    go_enter Tryz.func25, Tryz.ntmps25
    go_wp2_with fail
    go_ret
    exact ⟨rfl, HB.out⟩
  rw [if_neg g5]
  have g5' : ¬ (20000 : Int) ≤ (i : Int) + 1 := by omega
  clear g5
  cases hX : xmlNameB xn
  · rw [hX] at cX
    rw [if_pos rfl]
    clear cC HC HAr z4
    go_enter Tryz.func25, Tryz.ntmps25
    go_wp2_with (go_at_call 43; refine (cX _).mono ?_; rintro _ w1 ⟨rfl, hb1⟩)
    go_ret
    exact ⟨rfl, HB.out.trans (hb1.mono HB.out.size)⟩
  rw [hX] at cX
  rw [if_neg (by decide)]
  by_cases g7 : 24 < xa.length
  · rw [if_pos g7]
    have g7' : (24 : Int) < xa.length := by omega
    clear cC HAr z4
    go_enter Tryz.func25, Tryz.ntmps25
    go_wp2_with (go_at_call 43; refine (cX _).mono ?_; rintro _ w1 ⟨rfl, hb1⟩; obtain ⟨x2, x3⟩ := HC.out w1 hb1)
    go_ret
    exact ⟨rfl, HB.out.trans (hb1.mono HB.out.size)⟩
  rw [if_neg g7]
  have g7' : decide ((24 : Int) < xa.length) = false := decide_eq_false (by omega)
  obtain ⟨Z, hZ⟩ : ∃ Z : Nat, (if atE [] xa ≠ 0 then atE [] xa else if chrB xt = true then 0 else 55) = Z := ⟨_, rfl⟩
  rw [hZ]
  have HErr : Hid (∀ er : Nat, atE [] xa = er → er ≠ 0 → (Z = er ∧ ∀ W', Below W.heap.size W W' → Below w.heap.size w W')) := Hid.mkA fun er h1 h2 => ⟨by rw [← hZ, h1, if_pos h2], fun W' h => HB.out.trans (h.mono HB.out.size)⟩
  have HFin : Hid (atE [] xa = 0 → (chrB xt = false → Z = 55) ∧ (chrB xt = true → Z = 0)) := Hid.mkA fun h => ⟨fun h2 => by rw [← hZ, h, h2]; rfl, fun h2 => by rw [← hZ, h, h2]; rfl⟩
  clear hZ
  clear g7
  go_enter Tryz.func25, Tryz.ntmps25
  go_wp2_with (go_at_call 43; refine (cX _).mono ?_; rintro _ wN ⟨rfl, hbN⟩; obtain ⟨x2, x3⟩ := HC.out wN hbN)
  clear cX c0 c1 c2 c3 hW x2 x3
  go_loopw [8] (fun i wr => ∃ j : Nat, j ≤ xa.length ∧ i = .int .i64 j ∧ Below W.heap.size W wr ∧ Hid (atE [] xa = atE (xa.take j) (xa.drop j))) (fun i _ => xa.length - (RowKit.intOf i).toNat)
  case atStart => exact ⟨0, Nat.zero_le _, rfl, hbN, Hid.mkA rfl⟩
  case round =>
    obtain ⟨j, hj, rfl, hb, hq⟩ := hrel
    obtain ⟨y2, y3⟩ := HC.out wr hb
    by_cases hlt : j < xa.length
    · obtain ⟨a, hx⟩ : ∃ a, xa[j]? = some a := ⟨xa[j], List.getElem?_eq_getElem hlt⟩
      obtain ⟨g, o, rfl, hg, q0, q1, q2⟩ := (HAr.out wr hb).c j a hx
      have hlti : (j : Int) < xa.length := by omega
      obtain ⟨z1, z2⟩ := z4 a (List.mem_of_getElem? hx)
      have hA0 := atE_at hx
      have hb1 := bel1 wr (attO a)
      have hNn := aheap_new wr (attO a)
      have HW : Hid (∀ W', Below (wr.alloc (attO a)).heap.size (wr.alloc (attO a)) W' → Below W.heap.size W W' ∧ W'.cell? ⟨wr.heap.size, 0, none⟩ = some (.string a.nm) ∧ W'.cell? ⟨wr.heap.size, 1, none⟩ = some (.string a.vl)) := Hid.mkA fun W' h => by
        have hh := (h.block wr.heap.size (by rw [World.size_alloc]; omega)).trans hNn
        exact ⟨hb.trans ((hb1.trans (h.mono hb1.size)).mono hb.size), by simp only [World.cell?, hh]; rfl, by simp only [World.cell?, hh]; rfl⟩
      obtain ⟨-, n0, n1⟩ := HW.out _ (Below.refl _ _)
      have cX2 := fun W' => rXMLName a.nm (by omega) W'
      have cC2 := fun W' => refCharsB a.vl W' (by omega)
      have cH2 : Hid (∀ W', Below W.heap.size W W' → Calls Tryz.prog 45 #[.slice (some ⟨g, o, none⟩) xa.length ca, .int .i64 (j : Int), .string a.nm] W' fun e w' => e = .returned (.bool (hasA (xa.take j) a.nm)) ∧ ∃ m, w' = W'.drewN m) := Hid.mkA fun W' h => refHasN_any xa j hj _ ca a.nm W' ((HAr.out W' h).mono (Nat.le_trans HB.out.size h.size)) (by omega)
      clear hx hb1 hNn
      obtain ⟨an, av, ap⟩ := a
      simp only at q0 q1 q2 n0 n1 cX2 cC2 cH2 HW hA0
      cases hX2 : xmlNameB an
      · rw [hX2] at cX2 hA0
        have HX : Hid (atE [] xa = 55) := Hid.mkA (by rw [hq.out, hA0]; simp)
        clear hA0 hq cH2 cC2
        go_wp2_with (go_at_call 43; refine (cX2 _).mono ?_; rintro _ w1 ⟨rfl, hb1⟩)
        go_ret
        exact ⟨by rw [(HErr.out 55 HX.out (by decide)).1]; rfl, (HErr.out 55 HX.out (by decide)).2 _ (HW.out _ hb1).1⟩
      · rw [hX2] at cX2 hA0
        cases hC2 : chrB av
        · rw [hC2] at cC2 hA0
          have HX : Hid (atE [] xa = 55) := Hid.mkA (by rw [hq.out, hA0]; simp)
          clear hA0 hq cH2
          go_wp2_with (go_at_call 43; refine (cX2 _).mono ?_; rintro _ w1 ⟨rfl, hb1⟩; obtain ⟨k0, k1, k2⟩ := HW.out w1 hb1)
          refine (cC2 _).mono ?_
          rintro _ w2 ⟨rfl, hb2⟩
          go_wp2_with fail
          go_ret
          exact ⟨by rw [(HErr.out 55 HX.out (by decide)).1]; rfl, (HErr.out 55 HX.out (by decide)).2 _ (HW.out _ (hb1.trans (hb2.mono hb1.size))).1⟩
        · rw [hC2] at cC2 hA0
          simp only [if_true, and_self] at hA0
          cases hh : hasA (xa.take j) an
          · rw [hh] at cH2 hA0
            have HX : Hid (atE [] xa = atE (xa.take (j + 1)) (xa.drop (j + 1))) := Hid.mkA (by rw [hq.out, hA0]; simp)
            clear hA0 hq
            go_wp2_with (go_at_call 43; refine (cX2 _).mono ?_; rintro _ w1 ⟨rfl, hb1⟩; obtain ⟨k0, k1, k2⟩ := HW.out w1 hb1)
            refine (cC2 _).mono ?_
            rintro _ w2 ⟨rfl, hb2⟩
            obtain ⟨l0, l1, l2⟩ := HW.out w2 (hb1.trans (hb2.mono hb1.size))
            obtain ⟨x2, x3⟩ := HC.out w2 l0
            have cH3 := cH2.out w2 l0
            clear cX2 cC2 HW k0 k1 k2 hb1 hb2 n0 n1 y2 y3
            go_wp2_with (go_at_call 45; refine cH3.mono ?_; rintro _ _ ⟨rfl, m, rfl⟩)
            go_roundw
            case rel => exact ⟨j + 1, by omega, by go_num, tdr l0, HX⟩
            case measure => simp [RowKit.intOf]; omega
          · rw [hh] at cH2 hA0
            have HX : Hid (atE [] xa = 52) := Hid.mkA (by rw [hq.out, hA0]; simp)
            clear hA0 hq
            go_wp2_with (go_at_call 43; refine (cX2 _).mono ?_; rintro _ w1 ⟨rfl, hb1⟩; obtain ⟨k0, k1, k2⟩ := HW.out w1 hb1)
            refine (cC2 _).mono ?_
            rintro _ w2 ⟨rfl, hb2⟩
            obtain ⟨l0, l1, l2⟩ := HW.out w2 (hb1.trans (hb2.mono hb1.size))
            obtain ⟨x2, x3⟩ := HC.out w2 l0
            have cH3 := cH2.out w2 l0
            clear cX2 cC2 HW k0 k1 k2 hb1 hb2 n0 n1 y2 y3
            go_wp2_with (go_at_call 45; refine cH3.mono ?_; rintro _ _ ⟨rfl, m, rfl⟩)
            go_ret
            exact ⟨by rw [(HErr.out 52 HX.out (by decide)).1]; rfl, (HErr.out 52 HX.out (by decide)).2 _ (tdr l0)⟩
    · obtain rfl : j = xa.length := by omega
      have HX : Hid (atE [] xa = 0) := Hid.mkA (by rw [hq.out]; simp [atE])
      have hlt2 : ¬ ((xa.length : Int) < xa.length) := by omega
      clear hq
      cases hC3 : chrB xt
      · rw [hC3] at cC
        go_wp2_with (go_at_call 44; refine (cC _).mono ?_; rintro _ w2 ⟨rfl, hb2⟩)
        go_ret
        exact ⟨by rw [(HFin.out HX.out).1 hC3]; rfl, HB.out.trans ((hb.trans (hb2.mono hb.size)).mono HB.out.size)⟩
      · rw [hC3] at cC
        go_wp2_with (go_at_call 44; refine (cC _).mono ?_; rintro _ w2 ⟨rfl, hb2⟩)
        go_ret
        exact ⟨by rw [(HFin.out HX.out).2 hC3]; rfl, HB.out.trans ((hb.trans (hb2.mono hb.size)).mono HB.out.size)⟩
set_option maxRecDepth 100000 in
set_option maxHeartbeats 4000000 in
theorem refCheck_any (pp : Option Addr) (cp : Nat) (es : List El) (w : World) (hr : ERow w pp w.heap.size es) (hz : PSz es) :
    Calls Tryz.prog 8 #[.slice pp es.length cp] w fun e w' => e = .returned (.tuple #[.int .i64 ((chkZ es).1 : Int), .int .i64 ((chkZ es).2 : Int)]) ∧ Below w.heap.size w w' := by
  by_cases h0 : es = []
  · subst h0
    go_enter Tryz.func8, Tryz.ntmps8
    go_wp2_with fail
    exact bodyPost_ret (v := .tuple #[.int .i64 53, .int .i64 0]) (by simp [results, Tryz.results8, go_sem]) rfl ⟨rfl, Below.refl _ _⟩
  · have hlp : 0 < es.length := List.length_pos_iff.2 h0
    have hc : chkZ es = chkF es 0 0 := by unfold chkZ; rw [if_neg h0]
    rw [hc]
    have z0 : ((es.length : Int) == 0) = false := beq_eq_false_iff_ne.2 (by omega)
    have hn := hz.n
    clear h0 hc
    go_enter Tryz.func8, Tryz.ntmps8
    go_wp2_with fail
    clear z0
    go_loopw [4] (fun i wr => ∃ (j : Nat) (ah : Int), j ≤ es.length ∧ i = .int .i64 j ∧ Below w.heap.size w wr ∧ Hid (chkF es 0 0 = chkF (es.drop j) j ah) ∧ Hid ((j = 0 ∧ ah = 0) ∨ ∃ (k : Nat) (y : El), j = k + 1 ∧ es[k]? = some y ∧ y.d = ah ∧ 1 ≤ y.d ∧ y.d ≤ 16)) (fun i _ => es.length - (RowKit.intOf i).toNat)
    case atStart => exact ⟨0, 0, Nat.zero_le _, rfl, Below.refl _ _, Hid.mkA rfl, Hid.mkA (.inl ⟨rfl, rfl⟩)⟩
    case round =>
      obtain ⟨j, ah, hj, rfl, hb, hq, hp⟩ := hrel
      by_cases hlt : j < es.length
      · obtain ⟨e, hx⟩ : ∃ e, es[j]? = some e := ⟨es[j], List.getElem?_eq_getElem hlt⟩
        have hrr := (hr.below hb).mono hb.size
        have c : Calls Tryz.prog 25 #[.slice pp es.length cp, .int .i64 (j : Int)] wr fun r w' => r = .returned (.int .i64 (elE j ah e : Int)) ∧ Below wr.heap.size wr w' := by
          rcases hp.out with ⟨rfl, rfl⟩ | ⟨k, y, rfl, hy, rfl, hyd⟩
          · exact refFault0 es e pp cp wr hrr hz hx
          · exact refFaultS es k y e pp cp wr hrr hz hx hy hyd
        have hlti : (j : Int) < es.length := by omega
        have hF := chkF_at ah hx
        clear hp
        by_cases he : elE j ah e = 0
        · have hd := elE_d he
          rw [he] at c
          rw [if_pos he] at hF
          have HX : Hid (chkF es 0 0 = chkF (es.drop (j + 1)) (j + 1) e.d) := Hid.mkA (hq.out.trans hF)
          have HY : Hid ((j + 1 = 0 ∧ e.d = 0) ∨ ∃ (k : Nat) (y : El), j + 1 = k + 1 ∧ es[k]? = some y ∧ y.d = e.d ∧ 1 ≤ y.d ∧ y.d ≤ 16) := Hid.mkA (.inr ⟨j, e, rfl, hx, rfl, hd⟩)
          clear hF hq he hx hrr hr hz
          go_wp2_with (go_at_call 25; refine c.mono ?_; rintro _ w1 ⟨rfl, hb2⟩)
          go_roundw
          case rel => exact ⟨j + 1, e.d, by omega, by go_num, hb.trans (hb2.mono hb.size), HX, HY⟩
          case measure => simp [RowKit.intOf]; omega
        · rw [if_neg he] at hF
          have HX : Hid (chkF es 0 0 = (elE j ah e, j)) := Hid.mkA (hq.out.trans hF)
          have z1 : ((elE j ah e : Int) == 0) = false := beq_eq_false_iff_ne.2 (by omega)
          have z2 : ((elE j ah e : Int) != 0) = true := by rw [bne, z1]; rfl
          clear hF hq hx hrr hr hz
          generalize elE j ah e = er at c z1 z2 HX he
          go_wp2_with (go_at_call 25; refine c.mono ?_; rintro _ w1 ⟨rfl, hb2⟩)
          exact bodyPost_ret (v := .tuple #[.int .i64 (er : Int), .int .i64 (j : Int)]) (by simp [results, Tryz.results8, go_sem]) rfl ⟨by rw [HX.out], hb.trans (hb2.mono hb.size)⟩
      · obtain rfl : j = es.length := by omega
        have HX : Hid (chkF es 0 0 = (0, 0)) := Hid.mkA (by rw [hq.out, List.drop_length]; rfl)
        clear hq
        go_wp2_with fail
        exact bodyPost_ret (v := .tuple #[.int .i64 0, .int .i64 0]) (by simp [results, Tryz.results8, go_sem]) rfl ⟨by rw [HX.out]; rfl, hb⟩
end Go.Proofs.YtchfphakhmifmaaGreatDoor
