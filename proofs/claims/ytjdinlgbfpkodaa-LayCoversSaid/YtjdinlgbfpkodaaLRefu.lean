/- The law LayRefuses. -/
import Derived.Test.YtjdinlgbfpkodaaLRefM
import Derived.Test.YtjdinlgbfpkodaaLMade2
namespace Go.Proofs.Ytjdinlgbfpkodaa
open Go.ChangeShapes Go.WideShapes Go.ChangeAt Go.RowKit Go.Shelf

/-- What is known of one of the rooms that were made. -/
structure Pick (L : List Rm) (A : List Int) (K : Nat) (e G S O : Int) : Prop where
  pl : L[K]? = some ⟨S, O⟩
  pa : A[K]? = some (e + G)
  pe : 0 ≤ e ∧ e ≤ 6480
  pg : 0 ≤ G ∧ G < 40
  ps : 0 ≤ S ∧ S < 70
  po : O = -1 ∧ G = 0 ∨ O = e + G
  pbad : ∀ y er, layErr y e = er → er ≠ 0 → placeZ (L.set K y) (-1) = ⟨[], 0, er, K⟩
  pah : ∀ J, K = J + 1 → ∃ S' O' A', L[J]? = some ⟨S', O'⟩ ∧ A[J]? = some A' ∧ A' + S' = e ∧ 0 ≤ A' ∧ A' ≤ 6480 ∧ 0 ≤ S' ∧ S' < 70
theorem made_pick (l : List Rm) (K : Nat) (hK : K < (madeZ l).1.length) : ∃ e G S O, Pick (madeZ l).1 (madeZ l).2.1 K e G S O := by
  have hlen := (madeR_len (l.take 60) 0).1
  have hK' : K < (l.take 60).length := by unfold madeZ at hK; omega
  obtain ⟨x, hx⟩ : ∃ x, (l.take 60)[K]? = some x := ⟨(l.take 60)[K], List.getElem?_eq_getElem hK'⟩
  have hat := madeR_at (l.take 60) 0 K x hx
  have hg := gapS_b x
  have he := endK_b (l.take 60) 0 K (by decide)
  have h60 : (l.take 60).length ≤ 60 := by simp; omega
  refine ⟨endK (l.take 60) 0 K, gapS x, x.sz % 70, (roomS (endK (l.take 60) 0 K) x).of, hat.1, hat.2, by omega, by omega, by omega, ?_, fun y er h1 h2 => bad_place l K y er hK' h1 h2, fun J hJ => ?_⟩
  · unfold roomS
    dsimp only
    by_cases h : 0 ≤ x.of
    · rw [if_pos h]; exact .inr rfl
    · rw [if_neg h]; left; unfold gapS; rw [if_neg h]; exact ⟨rfl, rfl⟩
  · subst hJ
    obtain ⟨y, hy⟩ : ∃ y, (l.take 60)[J]? = some y := ⟨(l.take 60)[J]'(by omega), List.getElem?_eq_getElem (by omega)⟩
    have hat2 := madeR_at (l.take 60) 0 J y hy
    have he2 := endK_b (l.take 60) 0 J (by decide)
    have hg2 := gapS_b y
    exact ⟨y.sz % 70, (roomS (endK (l.take 60) 0 J) y).of, endK (l.take 60) 0 J + gapS y, hat2.1, hat2.2, (endK_succ (l.take 60) 0 J y hy hK').symm, by omega, by
      have := endK_succ (l.take 60) 0 J y hy hK'
      omega, by omega, by omega⟩
theorem placeZ_made (l : List Rm) : placeZ (madeZ l).1 (-1) = ⟨(madeZ l).2.1, (madeZ l).2.2, 0, 0⟩ := by
  rw [placeZ_ok (by decide) (madeZ_fill l)]
  unfold sayB
  rw [if_pos rfl, if_neg (by dsimp only; omega)]
theorem Rm.set_ok {L : List Rm} {K : Nat} {y : Rm} (h : ∀ x ∈ L, x.ok) (hy : y.ok) : ∀ x ∈ L.set K y, x.ok := fun x hx => by
  rcases List.mem_or_eq_of_mem_set hx with h1 | h1
  · exact h x h1
  · rw [h1]; exact hy
theorem frz {w : World} {base g cp : Nat} {l : List Rm} (h : RSp w base (.slice (some ⟨g, 0, none⟩) l.length cp) l) : ∀ o, w.frozen? ⟨g, o, none⟩ = false := by
  obtain ⟨g', cp', e, _, _, h3⟩ := h.x
  injection e with e
  injection e with e
  injection e with e
  subst e
  rcases h3.2 with ⟨h0, _⟩ | ⟨g2, cap, cur, h0, _, hg, _⟩
  · cases h0
  · cases h0
    intro o
    simp only [World.frozen?, hg]
    simp
set_option maxRecDepth 100000 in
set_option maxHeartbeats 16000000 in
theorem LayRefuses_any (l : List Rm) (pp : Option Addr) (cp : Nat) (which how : Int) (w : World) (hr : SlR w pp w.heap.size l) (hl : l.length ≤ 8796093021952) (hx : ∀ x ∈ l, x.ok) :
    Calls Try.prog 3 #[.slice pp l.length cp, .int .i64 which, .int .i64 how] w fun r w' => r = .returned (.bool true) ∧ Below w.heap.size w w' := by
  have cM := made_any l pp cp w hr hl hx
  have hpk := made_pick l
  have hpl := placeZ_made l
  have hb := madeZ_b l
  have hok := madeZ_ok l
  generalize madeZ l = Z at cM hpk hpl hb hok
  obtain ⟨L, A, E⟩ := Z
  dsimp only at cM hpk hpl hb hok
  obtain ⟨hE0, hE1, hL60, hLA⟩ := hb
  have cP := fun (W : World) p c (h : SlR W p W.heap.size L) => Place_any L p c (-1) W h (by omega) hok
  rw [hpl] at cP
  dsimp only at cP
  have cF := fixed_any
  have m5 := fun W => mod_any how 5 (by decide) (by decide) W
  have m1 := fun W => mod_any how 1000 (by decide) (by decide) W
  have hT : 0 ≤ how % 1000 ∧ how % 1000 < 1000 := by omega
  have h5 : 0 ≤ how % 5 ∧ how % 5 < 5 := by omega
  generalize how % 1000 = T at m1 hT
  generalize how % 5 = M at m5 h5
  clear hr hx hl
  by_cases h0 : L = []
  · subst h0
    go_enter Try.func3, Try.ntmps3
    go_wp2_with (first
      | (go_at_call 9; refine cM.mono ?_; rintro _ w1 ⟨vL, vA, rfl, hO1, hA1, hB1⟩; obtain ⟨pL, cL, rfl, hs1⟩ := hO1.sl; obtain ⟨pA, cA, rfl, hz1⟩ := hA1.sl; have c2 := rooms_any [] pL cL w1 hs1 (by decide))
      | (go_at_call 11; refine c2.mono ?_; rintro _ w2 ⟨vo, rfl, hO2, hB2⟩; obtain ⟨po, co, rfl, hs2⟩ := hO2.sl; have c3 := cP w2 po co hs2)
      | (go_at_call 10; refine c3.mono ?_; rintro _ w3 ⟨vb, rfl, hO3, hB3⟩; obtain ⟨pb, cb, rfl, hs3⟩ := hO3.sl)
      | (go_at_call 12; refine (num_any _ _).mono ?_; rintro _ w' ⟨rfl, hw'⟩; replace hw' := hw'.symm; subst hw')
      | (go_at_call 13; refine (cF _).mono ?_; rintro _ w4 ⟨rfl, hB4⟩))
    go_ret
    exact ⟨rfl, hB1.trans ((hB2.mono hB1.size).trans ((hB3.mono (Nat.le_trans hB1.size hB2.size)).trans (hB4.mono (Nat.le_trans hB1.size (Nat.le_trans hB2.size hB3.size)))))⟩
  have hn : 0 < L.length := List.length_pos_iff.2 h0
  have mk := fun W => mod_any which (L.length : Int) (by omega) (by omega) W
  have hk0 := Int.emod_nonneg which (show (L.length : Int) ≠ 0 by omega)
  have hk1 := Int.emod_lt_of_pos which (show 0 < (L.length : Int) by omega)
  obtain ⟨K, hK⟩ : ∃ K : Nat, which % (L.length : Int) = K := ⟨(which % (L.length : Int)).toNat, by omega⟩
  rw [hK] at mk hk0 hk1
  have hKn : K < L.length := by omega
  obtain ⟨e, G, S, O, hP⟩ := hpk K hKn
  obtain ⟨pl, pa, pe, pg, ps, po', pbad, pah⟩ := hP
  have hnl : ¬ (L.length : Int) = 0 := by omega
  have hnlb : ((L.length : Int) == 0) = false := beq_eq_false_iff_ne.2 hnl
  have hnl2 : ¬ L.length = 0 := by omega
  have hOk : i64ok O := (hok _ (List.mem_of_getElem? pl)).2
  have hSk : i64ok S := (hok _ (List.mem_of_getElem? pl)).1
  have hlF : ∀ s, layFrom ⟨s, O⟩ e = e + G := fun s => by
    unfold layFrom
    dsimp only
    rcases po' with ⟨h1, h2⟩ | h1
    · rw [if_pos h1]; omega
    · rw [if_neg (by omega)]; exact h1
  clear hpk hK h0
  have c6k : ∀ (W : World) g c (y : Rm) er, layErr y e = er → er ≠ 0 → y.ok → RmRow W (some ⟨g, 0, none⟩) W.heap.size (L.set K y) → Calls Try.prog 10 #[.slice (some ⟨g, 0, none⟩) L.length c, .int .i64 (-1)] W fun r w' => ∃ v, r = .returned (.tuple #[v, .int .i64 0, .int .i64 er, .int .i64 (K : Int)]) ∧ ZOwn w' W.heap.size v [] ∧ Below W.heap.size W w' := by
    intro W g c y er h1 h2 h3 h4
    have := Place_any (L.set K y) (some ⟨g, 0, none⟩) c (-1) W ⟨h4⟩ (by rw [List.length_set]; omega) (Rm.set_ok hok h3)
    rw [pbad y er h1 h2, List.length_set] at this
    exact this
  have hBs : ∀ (W : World) g o v, w.heap.size ≤ g → Below w.heap.size W (W.setCell ⟨g, o, none⟩ v) := fun W g o v h => ⟨rfl, rfl, rfl, by simp [World.setCell], fun k hk => Below.heap_setCell _ _ _ _ (show k ≠ g by omega)⟩
  have hMc : M = 0 ∨ M = 1 ∨ M = 2 ∨ M = 3 ∨ M = 4 := by omega
  rcases hMc with rfl | rfl | rfl | rfl | rfl
  · have hy : Hid (layErr ⟨-1 - T, O⟩ e = 73) := ⟨by unfold layErr; rw [if_pos (.inl (by dsimp only; omega))]⟩
    have hyk : Rm.ok ⟨-1 - T, O⟩ := ⟨⟨by dsimp only; omega, by dsimp only; omega⟩, hOk⟩
    go_enter Try.func3, Try.ntmps3
    go_wp2_with (first
    | (go_at_call 9; refine cM.mono ?_; rintro _ w1 ⟨vL, vA, rfl, hO1, hA1, hB1⟩; obtain ⟨pL, cL, rfl, hs1⟩ := hO1.sl; obtain ⟨pA, cA, rfl, hz1⟩ := hA1.sl; have c2 := rooms_any L pL cL w1 hs1 (by omega))
    | (go_at_call 11; refine c5.mono ?_; rintro _ w5 ⟨vd, rfl, hO5, hB5⟩; obtain ⟨gd, cd, rfl, hcd, hgd0, hgd, hrd⟩ := hO5.row; have hfd : ∀ o, w5.frozen? ⟨gd, o, none⟩ = false := frz hO5; obtain ⟨_, _, ed, _, y0, y1⟩ := hrd.left.c K ⟨S, O⟩ pl; cases ed; rw [Nat.zero_add] at y0 y1; have hza5 := hza4.up hB5; have hsl5 := hsl4.up hB5; obtain ⟨ga, oa, rfl, _, za⟩ := hza5.row.c K _ pa; have f0 := hfd (K * 2); have f1 := hfd (K * 2 + 1); have rw1 := RmRow.set0 hrd.left pl (-1 - T); have hgw : w.heap.size ≤ gd := (by have := hB1.size; have := hB2.size; have := hB3.size; have := hB4.size; omega); have HBs : Hid (Below w.heap.size w5 (w5.setCell ⟨gd, K * 2, none⟩ (.int .i64 (-1 - T)))) := Hid.mk <| (Below.refl _ w5).trans (hBs _ gd (K * 2) (.int .i64 (-1 - T)) hgw); have c6 := c6k (w5.setCell ⟨gd, K * 2, none⟩ (.int .i64 (-1 - T))) gd cd _ 73 hy.out (by decide) hyk (by have := rw1; simpa [World.setCell] using this))
    | (go_at_call 11; refine c2.mono ?_; clear c2; rintro _ w2 ⟨vo, rfl, hO2, hB2⟩; obtain ⟨po, co, rfl, hs2⟩ := hO2.sl; have c3 := cP w2 po co hs2)
    | (go_at_call 10; refine c6.mono ?_; rintro _ w6 ⟨vf, rfl, hO6, hB6⟩; obtain ⟨pf, cf, rfl, hs6⟩ := hO6.sl)
    | (go_at_call 10; refine c3.mono ?_; clear c3; rintro _ w3 ⟨vb, rfl, hO3, hB3⟩; obtain ⟨pb, cb, rfl, hs3⟩ := hO3.sl)
    | (go_at_call 12; refine (num_any _ _).mono ?_; rintro _ w' ⟨rfl, hw'⟩; replace hw' := hw'.symm; subst hw')
    | (go_at_call 13; refine (cF _).mono ?_; rintro _ w4 ⟨rfl, hB4⟩; have hsl4 := ((hs1.up hB2).up hB3).up hB4; have hza4 := ((hz1.up hB2).up hB3).up hB4; have c5 := rooms_any L pL cL w4 hsl4 (by omega))
    | (go_at_call_of 14 (Value.int .i64 5); refine (m5 _).mono ?_; rintro _ w' ⟨rfl, hw'⟩; replace hw' := hw'.symm; subst hw')
    | (go_at_call_of 14 (Value.int .i64 1000); refine (m1 _).mono ?_; rintro _ w' ⟨rfl, hw'⟩; replace hw' := hw'.symm; subst hw')
    | (go_at_call 14; refine (mk _).mono ?_; rintro _ w' ⟨rfl, hw'⟩; replace hw' := hw'.symm; subst hw'))
    go_ret
    exact ⟨rfl, hB1.trans ((hB2.mono hB1.size).trans ((hB3.mono (Nat.le_trans hB1.size hB2.size)).trans ((hB4.mono (Nat.le_trans hB1.size (Nat.le_trans hB2.size hB3.size))).trans ((hB5.mono (Nat.le_trans hB1.size (Nat.le_trans hB2.size (Nat.le_trans hB3.size hB4.size)))).trans (HBs.out.trans (hB6.mono (by have := HBs.out.size; have := hB1.size; have := hB2.size; have := hB3.size; have := hB4.size; have := hB5.size; omega)))))))⟩
  · have hy : Hid (layErr ⟨S, -2 - T⟩ e = 73) := ⟨by unfold layErr layFrom; dsimp only; rw [if_neg (show ¬ -2 - T = -1 by omega), if_pos (.inr (by omega))]⟩
    have hyk : Rm.ok ⟨S, -2 - T⟩ := ⟨hSk, ⟨by dsimp only; omega, by dsimp only; omega⟩⟩
    go_enter Try.func3, Try.ntmps3
    go_wp2_with (first
    | (go_at_call 9; refine cM.mono ?_; rintro _ w1 ⟨vL, vA, rfl, hO1, hA1, hB1⟩; obtain ⟨pL, cL, rfl, hs1⟩ := hO1.sl; obtain ⟨pA, cA, rfl, hz1⟩ := hA1.sl; have c2 := rooms_any L pL cL w1 hs1 (by omega))
    | (go_at_call 11; refine c5.mono ?_; rintro _ w5 ⟨vd, rfl, hO5, hB5⟩; obtain ⟨gd, cd, rfl, hcd, hgd0, hgd, hrd⟩ := hO5.row; have hfd : ∀ o, w5.frozen? ⟨gd, o, none⟩ = false := frz hO5; obtain ⟨_, _, ed, _, y0, y1⟩ := hrd.left.c K ⟨S, O⟩ pl; cases ed; rw [Nat.zero_add] at y0 y1; have hza5 := hza4.up hB5; have hsl5 := hsl4.up hB5; obtain ⟨ga, oa, rfl, _, za⟩ := hza5.row.c K _ pa; have f0 := hfd (K * 2); have f1 := hfd (K * 2 + 1); have rw1 := RmRow.set1 hrd.left pl (-2 - T); have hgw : w.heap.size ≤ gd := (by have := hB1.size; have := hB2.size; have := hB3.size; have := hB4.size; omega); have HBs : Hid (Below w.heap.size w5 (w5.setCell ⟨gd, K * 2 + 1, none⟩ (.int .i64 (-2 - T)))) := Hid.mk <| (Below.refl _ w5).trans (hBs _ gd (K * 2 + 1) (.int .i64 (-2 - T)) hgw); have c6 := c6k (w5.setCell ⟨gd, K * 2 + 1, none⟩ (.int .i64 (-2 - T))) gd cd _ 73 hy.out (by decide) hyk (by have := rw1; simpa [World.setCell] using this))
    | (go_at_call 11; refine c2.mono ?_; clear c2; rintro _ w2 ⟨vo, rfl, hO2, hB2⟩; obtain ⟨po, co, rfl, hs2⟩ := hO2.sl; have c3 := cP w2 po co hs2)
    | (go_at_call 10; refine c6.mono ?_; rintro _ w6 ⟨vf, rfl, hO6, hB6⟩; obtain ⟨pf, cf, rfl, hs6⟩ := hO6.sl)
    | (go_at_call 10; refine c3.mono ?_; clear c3; rintro _ w3 ⟨vb, rfl, hO3, hB3⟩; obtain ⟨pb, cb, rfl, hs3⟩ := hO3.sl)
    | (go_at_call 12; refine (num_any _ _).mono ?_; rintro _ w' ⟨rfl, hw'⟩; replace hw' := hw'.symm; subst hw')
    | (go_at_call 13; refine (cF _).mono ?_; rintro _ w4 ⟨rfl, hB4⟩; have hsl4 := ((hs1.up hB2).up hB3).up hB4; have hza4 := ((hz1.up hB2).up hB3).up hB4; have c5 := rooms_any L pL cL w4 hsl4 (by omega))
    | (go_at_call_of 14 (Value.int .i64 5); refine (m5 _).mono ?_; rintro _ w' ⟨rfl, hw'⟩; replace hw' := hw'.symm; subst hw')
    | (go_at_call_of 14 (Value.int .i64 1000); refine (m1 _).mono ?_; rintro _ w' ⟨rfl, hw'⟩; replace hw' := hw'.symm; subst hw')
    | (go_at_call 14; refine (mk _).mono ?_; rintro _ w' ⟨rfl, hw'⟩; replace hw' := hw'.symm; subst hw'))
    go_ret
    exact ⟨rfl, hB1.trans ((hB2.mono hB1.size).trans ((hB3.mono (Nat.le_trans hB1.size hB2.size)).trans ((hB4.mono (Nat.le_trans hB1.size (Nat.le_trans hB2.size hB3.size))).trans ((hB5.mono (Nat.le_trans hB1.size (Nat.le_trans hB2.size (Nat.le_trans hB3.size hB4.size)))).trans (HBs.out.trans (hB6.mono (by have := HBs.out.size; have := hB1.size; have := hB2.size; have := hB3.size; have := hB4.size; have := hB5.size; omega)))))))⟩
  · have hy : Hid (layErr ⟨65536 - (e + G), O⟩ e = 72) := ⟨by unfold layErr; rw [hlF]; dsimp only; rw [if_neg (by omega), if_neg (by omega), if_pos (by omega)]⟩
    have hyk : Rm.ok ⟨65536 - (e + G), O⟩ := ⟨⟨by dsimp only; omega, by dsimp only; omega⟩, hOk⟩
    go_enter Try.func3, Try.ntmps3
    go_wp2_with (first
    | (go_at_call 9; refine cM.mono ?_; rintro _ w1 ⟨vL, vA, rfl, hO1, hA1, hB1⟩; obtain ⟨pL, cL, rfl, hs1⟩ := hO1.sl; obtain ⟨pA, cA, rfl, hz1⟩ := hA1.sl; have c2 := rooms_any L pL cL w1 hs1 (by omega))
    | (go_at_call 11; refine c5.mono ?_; rintro _ w5 ⟨vd, rfl, hO5, hB5⟩; obtain ⟨gd, cd, rfl, hcd, hgd0, hgd, hrd⟩ := hO5.row; have hfd : ∀ o, w5.frozen? ⟨gd, o, none⟩ = false := frz hO5; obtain ⟨_, _, ed, _, y0, y1⟩ := hrd.left.c K ⟨S, O⟩ pl; cases ed; rw [Nat.zero_add] at y0 y1; have hza5 := hza4.up hB5; have hsl5 := hsl4.up hB5; obtain ⟨ga, oa, rfl, _, za⟩ := hza5.row.c K _ pa; have f0 := hfd (K * 2); have f1 := hfd (K * 2 + 1); have rw1 := RmRow.set0 hrd.left pl (65536 - (e + G)); have hgw : w.heap.size ≤ gd := (by have := hB1.size; have := hB2.size; have := hB3.size; have := hB4.size; omega); have HBs : Hid (Below w.heap.size w5 (w5.setCell ⟨gd, K * 2, none⟩ (.int .i64 (65536 - (e + G))))) := Hid.mk <| (Below.refl _ w5).trans (hBs _ gd (K * 2) (.int .i64 (65536 - (e + G))) hgw); have c6 := c6k (w5.setCell ⟨gd, K * 2, none⟩ (.int .i64 (65536 - (e + G)))) gd cd _ 72 hy.out (by decide) hyk (by have := rw1; simpa [World.setCell] using this))
    | (go_at_call 11; refine c2.mono ?_; clear c2; rintro _ w2 ⟨vo, rfl, hO2, hB2⟩; obtain ⟨po, co, rfl, hs2⟩ := hO2.sl; have c3 := cP w2 po co hs2)
    | (go_at_call 10; refine c6.mono ?_; rintro _ w6 ⟨vf, rfl, hO6, hB6⟩; obtain ⟨pf, cf, rfl, hs6⟩ := hO6.sl)
    | (go_at_call 10; refine c3.mono ?_; clear c3; rintro _ w3 ⟨vb, rfl, hO3, hB3⟩; obtain ⟨pb, cb, rfl, hs3⟩ := hO3.sl)
    | (go_at_call 12; refine (num_any _ _).mono ?_; rintro _ w' ⟨rfl, hw'⟩; replace hw' := hw'.symm; subst hw')
    | (go_at_call 13; refine (cF _).mono ?_; rintro _ w4 ⟨rfl, hB4⟩; have hsl4 := ((hs1.up hB2).up hB3).up hB4; have hza4 := ((hz1.up hB2).up hB3).up hB4; have c5 := rooms_any L pL cL w4 hsl4 (by omega))
    | (go_at_call_of 14 (Value.int .i64 5); refine (m5 _).mono ?_; rintro _ w' ⟨rfl, hw'⟩; replace hw' := hw'.symm; subst hw')
    | (go_at_call_of 14 (Value.int .i64 1000); refine (m1 _).mono ?_; rintro _ w' ⟨rfl, hw'⟩; replace hw' := hw'.symm; subst hw')
    | (go_at_call 14; refine (mk _).mono ?_; rintro _ w' ⟨rfl, hw'⟩; replace hw' := hw'.symm; subst hw'))
    go_ret
    exact ⟨rfl, hB1.trans ((hB2.mono hB1.size).trans ((hB3.mono (Nat.le_trans hB1.size hB2.size)).trans ((hB4.mono (Nat.le_trans hB1.size (Nat.le_trans hB2.size hB3.size))).trans ((hB5.mono (Nat.le_trans hB1.size (Nat.le_trans hB2.size (Nat.le_trans hB3.size hB4.size)))).trans (HBs.out.trans (hB6.mono (by have := HBs.out.size; have := hB1.size; have := hB2.size; have := hB3.size; have := hB4.size; have := hB5.size; omega)))))))⟩
  · by_cases hS0 : S = 0
    · have hy : Hid (layErr ⟨1, 9223372036854775807⟩ e = 72) := ⟨by unfold layErr layFrom; dsimp only; rw [if_neg (show ¬ (9223372036854775807 : Int) = -1 by decide), if_neg (by omega), if_neg (by omega), if_pos (by omega)]⟩
      have hyk : Rm.ok ⟨1, 9223372036854775807⟩ := ⟨⟨by decide, by decide⟩, ⟨by decide, by decide⟩⟩
      have hS0b : (S == 0) = true := beq_iff_eq.2 hS0
      go_enter Try.func3, Try.ntmps3
      go_wp2_with (first
      | (go_at_call 9; refine cM.mono ?_; rintro _ w1 ⟨vL, vA, rfl, hO1, hA1, hB1⟩; obtain ⟨pL, cL, rfl, hs1⟩ := hO1.sl; obtain ⟨pA, cA, rfl, hz1⟩ := hA1.sl; have c2 := rooms_any L pL cL w1 hs1 (by omega))
      | (go_at_call 11; refine c5.mono ?_; rintro _ w5 ⟨vd, rfl, hO5, hB5⟩; obtain ⟨gd, cd, rfl, hcd, hgd0, hgd, hrd⟩ := hO5.row; have hfd : ∀ o, w5.frozen? ⟨gd, o, none⟩ = false := frz hO5; obtain ⟨_, _, ed, _, y0, y1⟩ := hrd.left.c K ⟨S, O⟩ pl; cases ed; rw [Nat.zero_add] at y0 y1; have hza5 := hza4.up hB5; have hsl5 := hsl4.up hB5; obtain ⟨ga, oa, rfl, _, za⟩ := hza5.row.c K _ pa; have f0 := hfd (K * 2); have f1 := hfd (K * 2 + 1); have y0b : (w5.setCell ⟨gd, K * 2 + 1, none⟩ (.int .i64 9223372036854775807)).cell? ⟨gd, K * 2, none⟩ = some (.int .i64 S) := (World.cell?_setCell_other w5 _ _ _ (fun e => by injection e with _ e2; omega)).trans y0; have f0b : (w5.setCell ⟨gd, K * 2 + 1, none⟩ (.int .i64 9223372036854775807)).frozen? ⟨gd, K * 2, none⟩ = false := (by rw [World.frozen?_setCell]; exact f0); have rw1 := RmRow.set1 hrd.left pl (9223372036854775807); have px1 : (L.set K (⟨S, 9223372036854775807⟩ : Rm))[K]? = some (⟨S, 9223372036854775807⟩ : Rm) := List.getElem?_set_self (by simpa using hKn); have rw2 := RmRow.set0 rw1 px1 (1); rw [List.set_set] at rw2; have hgw : w.heap.size ≤ gd := (by have := hB1.size; have := hB2.size; have := hB3.size; have := hB4.size; omega); have HBs : Hid (Below w.heap.size w5 ((w5.setCell ⟨gd, K * 2 + 1, none⟩ (.int .i64 (9223372036854775807))).setCell ⟨gd, K * 2, none⟩ (.int .i64 (1)))) := Hid.mk <| ((Below.refl _ w5).trans (hBs _ gd (K * 2 + 1) (.int .i64 (9223372036854775807)) hgw)).trans (hBs _ gd (K * 2) (.int .i64 (1)) hgw); have c6 := c6k ((w5.setCell ⟨gd, K * 2 + 1, none⟩ (.int .i64 (9223372036854775807))).setCell ⟨gd, K * 2, none⟩ (.int .i64 (1))) gd cd _ 72 hy.out (by decide) hyk (by have := rw2; simpa [World.setCell] using this))
      | (go_at_call 11; refine c2.mono ?_; clear c2; rintro _ w2 ⟨vo, rfl, hO2, hB2⟩; obtain ⟨po, co, rfl, hs2⟩ := hO2.sl; have c3 := cP w2 po co hs2)
      | (go_at_call 10; refine c6.mono ?_; rintro _ w6 ⟨vf, rfl, hO6, hB6⟩; obtain ⟨pf, cf, rfl, hs6⟩ := hO6.sl)
      | (go_at_call 10; refine c3.mono ?_; clear c3; rintro _ w3 ⟨vb, rfl, hO3, hB3⟩; obtain ⟨pb, cb, rfl, hs3⟩ := hO3.sl)
      | (go_at_call 12; refine (num_any _ _).mono ?_; rintro _ w' ⟨rfl, hw'⟩; replace hw' := hw'.symm; subst hw')
      | (go_at_call 13; refine (cF _).mono ?_; rintro _ w4 ⟨rfl, hB4⟩; have hsl4 := ((hs1.up hB2).up hB3).up hB4; have hza4 := ((hz1.up hB2).up hB3).up hB4; have c5 := rooms_any L pL cL w4 hsl4 (by omega))
      | (go_at_call_of 14 (Value.int .i64 5); refine (m5 _).mono ?_; rintro _ w' ⟨rfl, hw'⟩; replace hw' := hw'.symm; subst hw')
      | (go_at_call_of 14 (Value.int .i64 1000); refine (m1 _).mono ?_; rintro _ w' ⟨rfl, hw'⟩; replace hw' := hw'.symm; subst hw')
      | (go_at_call 14; refine (mk _).mono ?_; rintro _ w' ⟨rfl, hw'⟩; replace hw' := hw'.symm; subst hw'))
      go_ret
      exact ⟨rfl, hB1.trans ((hB2.mono hB1.size).trans ((hB3.mono (Nat.le_trans hB1.size hB2.size)).trans ((hB4.mono (Nat.le_trans hB1.size (Nat.le_trans hB2.size hB3.size))).trans ((hB5.mono (Nat.le_trans hB1.size (Nat.le_trans hB2.size (Nat.le_trans hB3.size hB4.size)))).trans (HBs.out.trans (hB6.mono (by have := HBs.out.size; have := hB1.size; have := hB2.size; have := hB3.size; have := hB4.size; have := hB5.size; omega)))))))⟩
    · have hy : Hid (layErr ⟨S, 9223372036854775807⟩ e = 72) := ⟨by unfold layErr layFrom; dsimp only; rw [if_neg (show ¬ (9223372036854775807 : Int) = -1 by decide), if_neg (by omega), if_neg (by omega), if_pos (by omega)]⟩
      have hyk : Rm.ok ⟨S, 9223372036854775807⟩ := ⟨hSk, ⟨by dsimp only; omega, by dsimp only; omega⟩⟩
      have hS0b : (S == 0) = false := beq_eq_false_iff_ne.2 hS0
      go_enter Try.func3, Try.ntmps3
      go_wp2_with (first
      | (go_at_call 9; refine cM.mono ?_; rintro _ w1 ⟨vL, vA, rfl, hO1, hA1, hB1⟩; obtain ⟨pL, cL, rfl, hs1⟩ := hO1.sl; obtain ⟨pA, cA, rfl, hz1⟩ := hA1.sl; have c2 := rooms_any L pL cL w1 hs1 (by omega))
      | (go_at_call 11; refine c5.mono ?_; rintro _ w5 ⟨vd, rfl, hO5, hB5⟩; obtain ⟨gd, cd, rfl, hcd, hgd0, hgd, hrd⟩ := hO5.row; have hfd : ∀ o, w5.frozen? ⟨gd, o, none⟩ = false := frz hO5; obtain ⟨_, _, ed, _, y0, y1⟩ := hrd.left.c K ⟨S, O⟩ pl; cases ed; rw [Nat.zero_add] at y0 y1; have hza5 := hza4.up hB5; have hsl5 := hsl4.up hB5; obtain ⟨ga, oa, rfl, _, za⟩ := hza5.row.c K _ pa; have f0 := hfd (K * 2); have f1 := hfd (K * 2 + 1); have y0b : (w5.setCell ⟨gd, K * 2 + 1, none⟩ (.int .i64 9223372036854775807)).cell? ⟨gd, K * 2, none⟩ = some (.int .i64 S) := (World.cell?_setCell_other w5 _ _ _ (fun e => by injection e with _ e2; omega)).trans y0; have f0b : (w5.setCell ⟨gd, K * 2 + 1, none⟩ (.int .i64 9223372036854775807)).frozen? ⟨gd, K * 2, none⟩ = false := (by rw [World.frozen?_setCell]; exact f0); have rw1 := RmRow.set1 hrd.left pl (9223372036854775807); have hgw : w.heap.size ≤ gd := (by have := hB1.size; have := hB2.size; have := hB3.size; have := hB4.size; omega); have HBs : Hid (Below w.heap.size w5 (w5.setCell ⟨gd, K * 2 + 1, none⟩ (.int .i64 (9223372036854775807)))) := Hid.mk <| (Below.refl _ w5).trans (hBs _ gd (K * 2 + 1) (.int .i64 (9223372036854775807)) hgw); have c6 := c6k (w5.setCell ⟨gd, K * 2 + 1, none⟩ (.int .i64 (9223372036854775807))) gd cd _ 72 hy.out (by decide) hyk (by have := rw1; simpa [World.setCell] using this))
      | (go_at_call 11; refine c2.mono ?_; clear c2; rintro _ w2 ⟨vo, rfl, hO2, hB2⟩; obtain ⟨po, co, rfl, hs2⟩ := hO2.sl; have c3 := cP w2 po co hs2)
      | (go_at_call 10; refine c6.mono ?_; rintro _ w6 ⟨vf, rfl, hO6, hB6⟩; obtain ⟨pf, cf, rfl, hs6⟩ := hO6.sl)
      | (go_at_call 10; refine c3.mono ?_; clear c3; rintro _ w3 ⟨vb, rfl, hO3, hB3⟩; obtain ⟨pb, cb, rfl, hs3⟩ := hO3.sl)
      | (go_at_call 12; refine (num_any _ _).mono ?_; rintro _ w' ⟨rfl, hw'⟩; replace hw' := hw'.symm; subst hw')
      | (go_at_call 13; refine (cF _).mono ?_; rintro _ w4 ⟨rfl, hB4⟩; have hsl4 := ((hs1.up hB2).up hB3).up hB4; have hza4 := ((hz1.up hB2).up hB3).up hB4; have c5 := rooms_any L pL cL w4 hsl4 (by omega))
      | (go_at_call_of 14 (Value.int .i64 5); refine (m5 _).mono ?_; rintro _ w' ⟨rfl, hw'⟩; replace hw' := hw'.symm; subst hw')
      | (go_at_call_of 14 (Value.int .i64 1000); refine (m1 _).mono ?_; rintro _ w' ⟨rfl, hw'⟩; replace hw' := hw'.symm; subst hw')
      | (go_at_call 14; refine (mk _).mono ?_; rintro _ w' ⟨rfl, hw'⟩; replace hw' := hw'.symm; subst hw'))
      go_ret
      exact ⟨rfl, hB1.trans ((hB2.mono hB1.size).trans ((hB3.mono (Nat.le_trans hB1.size hB2.size)).trans ((hB4.mono (Nat.le_trans hB1.size (Nat.le_trans hB2.size hB3.size))).trans ((hB5.mono (Nat.le_trans hB1.size (Nat.le_trans hB2.size (Nat.le_trans hB3.size hB4.size)))).trans (HBs.out.trans (hB6.mono (by have := HBs.out.size; have := hB1.size; have := hB2.size; have := hB3.size; have := hB4.size; have := hB5.size; omega)))))))⟩
  · by_cases hKz : K = 0
    · have hK1 : ((K : Int) == 0) = true := beq_iff_eq.2 (by omega)
      clear hKz pah
      go_enter Try.func3, Try.ntmps3
      go_wp2_with (first
    | (go_at_call 9; refine cM.mono ?_; rintro _ w1 ⟨vL, vA, rfl, hO1, hA1, hB1⟩; obtain ⟨pL, cL, rfl, hs1⟩ := hO1.sl; obtain ⟨pA, cA, rfl, hz1⟩ := hA1.sl; have c2 := rooms_any L pL cL w1 hs1 (by omega))
    | (go_at_call 11; refine c5.mono ?_; rintro _ w5 ⟨vd, rfl, hO5, hB5⟩; obtain ⟨gd, cd, rfl, hcd, hgd0, hgd, hrd⟩ := hO5.row; have hfd : ∀ o, w5.frozen? ⟨gd, o, none⟩ = false := frz hO5; obtain ⟨_, _, ed, _, y0, y1⟩ := hrd.left.c K ⟨S, O⟩ pl; cases ed; rw [Nat.zero_add] at y0 y1; have hza5 := hza4.up hB5; have hsl5 := hsl4.up hB5; obtain ⟨ga, oa, rfl, _, za⟩ := hza5.row.c K _ pa)
    | (go_at_call 11; refine c2.mono ?_; clear c2; rintro _ w2 ⟨vo, rfl, hO2, hB2⟩; obtain ⟨po, co, rfl, hs2⟩ := hO2.sl; have c3 := cP w2 po co hs2)
    | (go_at_call 10; refine c6.mono ?_; rintro _ w6 ⟨vf, rfl, hO6, hB6⟩; obtain ⟨pf, cf, rfl, hs6⟩ := hO6.sl)
    | (go_at_call 10; refine c3.mono ?_; clear c3; rintro _ w3 ⟨vb, rfl, hO3, hB3⟩; obtain ⟨pb, cb, rfl, hs3⟩ := hO3.sl)
    | (go_at_call 12; refine (num_any _ _).mono ?_; rintro _ w' ⟨rfl, hw'⟩; replace hw' := hw'.symm; subst hw')
    | (go_at_call 13; refine (cF _).mono ?_; rintro _ w4 ⟨rfl, hB4⟩; have hsl4 := ((hs1.up hB2).up hB3).up hB4; have hza4 := ((hz1.up hB2).up hB3).up hB4; have c5 := rooms_any L pL cL w4 hsl4 (by omega))
    | (go_at_call_of 14 (Value.int .i64 5); refine (m5 _).mono ?_; rintro _ w' ⟨rfl, hw'⟩; replace hw' := hw'.symm; subst hw')
    | (go_at_call_of 14 (Value.int .i64 1000); refine (m1 _).mono ?_; rintro _ w' ⟨rfl, hw'⟩; replace hw' := hw'.symm; subst hw')
    | (go_at_call 14; refine (mk _).mono ?_; rintro _ w' ⟨rfl, hw'⟩; replace hw' := hw'.symm; subst hw'))
      go_quiet (fail)
      go_wp2_with fail
      go_ret
      exact ⟨rfl, tdr (hB1.trans ((hB2.mono hB1.size).trans ((hB3.mono (Nat.le_trans hB1.size hB2.size)).trans ((hB4.mono (Nat.le_trans hB1.size (Nat.le_trans hB2.size hB3.size))).trans (hB5.mono (Nat.le_trans hB1.size (Nat.le_trans hB2.size (Nat.le_trans hB3.size hB4.size))))))))⟩
    obtain ⟨J, hJ⟩ : ∃ J, K = J + 1 := ⟨K - 1, by omega⟩
    obtain ⟨S', O', A', jl, ja, jse, jA0, jA1, jS0, jS1⟩ := pah J hJ
    have hKJ : (K : Int) - 1 = (J : Int) := by omega
    have hJl : J < L.length := by omega
    have hJa : J < A.length := by omega
    have hJl' : (J : Int) < L.length := by omega
    have hJa' : (J : Int) < A.length := by omega
    have hK1 : ((K : Int) == 0) = false := beq_eq_false_iff_ne.2 (by omega)
    have hK2 : ¬ (K : Int) = 0 := by omega
    clear pah hJ hKz
    by_cases he0 : e = 0
    · have hs0 : A' + S' = 0 := by omega
      have hs0b : (A' + S' == 0) = true := beq_iff_eq.2 hs0
      go_enter Try.func3, Try.ntmps3
      go_wp2_with (first
    | (go_at_call 9; refine cM.mono ?_; rintro _ w1 ⟨vL, vA, rfl, hO1, hA1, hB1⟩; obtain ⟨pL, cL, rfl, hs1⟩ := hO1.sl; obtain ⟨pA, cA, rfl, hz1⟩ := hA1.sl; have c2 := rooms_any L pL cL w1 hs1 (by omega))
    | (go_at_call 11; refine c5.mono ?_; rintro _ w5 ⟨vd, rfl, hO5, hB5⟩; obtain ⟨gd, cd, rfl, hcd, hgd0, hgd, hrd⟩ := hO5.row; have hfd : ∀ o, w5.frozen? ⟨gd, o, none⟩ = false := frz hO5; obtain ⟨_, _, ed, _, y0, y1⟩ := hrd.left.c K ⟨S, O⟩ pl; cases ed; rw [Nat.zero_add] at y0 y1; have hza5 := hza4.up hB5; have hsl5 := hsl4.up hB5; obtain ⟨ga, oa, rfl, _, za⟩ := hza5.row.c K _ pa; obtain ⟨g7, o7, e7, _, x7⟩ := hza5.row.c J A' ja; cases e7; obtain ⟨g8, o8, rfl, _, x8, _⟩ := hsl5.row.c J ⟨S', O'⟩ jl)
    | (go_at_call 11; refine c2.mono ?_; clear c2; rintro _ w2 ⟨vo, rfl, hO2, hB2⟩; obtain ⟨po, co, rfl, hs2⟩ := hO2.sl; have c3 := cP w2 po co hs2)
    | (go_at_call 10; refine c6.mono ?_; rintro _ w6 ⟨vf, rfl, hO6, hB6⟩; obtain ⟨pf, cf, rfl, hs6⟩ := hO6.sl)
    | (go_at_call 10; refine c3.mono ?_; clear c3; rintro _ w3 ⟨vb, rfl, hO3, hB3⟩; obtain ⟨pb, cb, rfl, hs3⟩ := hO3.sl)
    | (go_at_call 12; refine (num_any _ _).mono ?_; rintro _ w' ⟨rfl, hw'⟩; replace hw' := hw'.symm; subst hw')
    | (go_at_call 13; refine (cF _).mono ?_; rintro _ w4 ⟨rfl, hB4⟩; have hsl4 := ((hs1.up hB2).up hB3).up hB4; have hza4 := ((hz1.up hB2).up hB3).up hB4; have c5 := rooms_any L pL cL w4 hsl4 (by omega))
    | (go_at_call_of 14 (Value.int .i64 5); refine (m5 _).mono ?_; rintro _ w' ⟨rfl, hw'⟩; replace hw' := hw'.symm; subst hw')
    | (go_at_call_of 14 (Value.int .i64 1000); refine (m1 _).mono ?_; rintro _ w' ⟨rfl, hw'⟩; replace hw' := hw'.symm; subst hw')
    | (go_at_call 14; refine (mk _).mono ?_; rintro _ w' ⟨rfl, hw'⟩; replace hw' := hw'.symm; subst hw'))
      go_quiet (fail)
      go_wp2_with fail
      go_ret
      exact ⟨rfl, tdr (hB1.trans ((hB2.mono hB1.size).trans ((hB3.mono (Nat.le_trans hB1.size hB2.size)).trans ((hB4.mono (Nat.le_trans hB1.size (Nat.le_trans hB2.size hB3.size))).trans (hB5.mono (Nat.le_trans hB1.size (Nat.le_trans hB2.size (Nat.le_trans hB3.size hB4.size))))))))⟩
    · have hs0 : ¬ A' + S' = 0 := by omega
      have hs0b : (A' + S' == 0) = false := beq_eq_false_iff_ne.2 hs0
      subst jse
      have hy : Hid (layErr ⟨S, A' + S' - 1⟩ (A' + S') = 70) := ⟨by unfold layErr layFrom; dsimp only; rw [if_neg (show ¬ A' + S' - 1 = -1 by omega), if_neg (by omega), if_pos (by omega)]⟩
      have hyk : Rm.ok ⟨S, A' + S' - 1⟩ := ⟨hSk, ⟨by dsimp only; omega, by dsimp only; omega⟩⟩
      have hw1 : IntKind.i64.wrap (A' + S') = A' + S' := by rw [IntKind.wrap_i64]; omega
      have hw2 : IntKind.i64.wrap (A' + S' - 1) = A' + S' - 1 := by rw [IntKind.wrap_i64]; omega
      have hw3 : IntKind.i64.wrap ((K : Int) - 1) = (J : Int) := by rw [hKJ, IntKind.wrap_i64]; omega
      have hw4 : IntKind.i64.wrap (J : Int) = (J : Int) := by rw [IntKind.wrap_i64]; omega
      go_enter Try.func3, Try.ntmps3
      go_wp2_with (first
    | (go_at_call 9; refine cM.mono ?_; rintro _ w1 ⟨vL, vA, rfl, hO1, hA1, hB1⟩; obtain ⟨pL, cL, rfl, hs1⟩ := hO1.sl; obtain ⟨pA, cA, rfl, hz1⟩ := hA1.sl; have c2 := rooms_any L pL cL w1 hs1 (by omega))
    | (go_at_call 11; refine c5.mono ?_; rintro _ w5 ⟨vd, rfl, hO5, hB5⟩; obtain ⟨gd, cd, rfl, hcd, hgd0, hgd, hrd⟩ := hO5.row; have hfd : ∀ o, w5.frozen? ⟨gd, o, none⟩ = false := frz hO5; obtain ⟨_, _, ed, _, y0, y1⟩ := hrd.left.c K ⟨S, O⟩ pl; cases ed; rw [Nat.zero_add] at y0 y1; have hza5 := hza4.up hB5; have hsl5 := hsl4.up hB5; obtain ⟨ga, oa, rfl, _, za⟩ := hza5.row.c K _ pa; obtain ⟨g7, o7, e7, _, x7⟩ := hza5.row.c J A' ja; cases e7; obtain ⟨g8, o8, rfl, _, x8, _⟩ := hsl5.row.c J ⟨S', O'⟩ jl)
    | (go_at_call 11; refine c2.mono ?_; clear c2; rintro _ w2 ⟨vo, rfl, hO2, hB2⟩; obtain ⟨po, co, rfl, hs2⟩ := hO2.sl; have c3 := cP w2 po co hs2)
    | (go_at_call 10; refine c6.mono ?_; rintro _ w6 ⟨vf, rfl, hO6, hB6⟩; obtain ⟨pf, cf, rfl, hs6⟩ := hO6.sl)
    | (go_at_call 10; refine c3.mono ?_; clear c3; rintro _ w3 ⟨vb, rfl, hO3, hB3⟩; obtain ⟨pb, cb, rfl, hs3⟩ := hO3.sl)
    | (go_at_call 12; refine (num_any _ _).mono ?_; rintro _ w' ⟨rfl, hw'⟩; replace hw' := hw'.symm; subst hw')
    | (go_at_call 13; refine (cF _).mono ?_; rintro _ w4 ⟨rfl, hB4⟩; have hsl4 := ((hs1.up hB2).up hB3).up hB4; have hza4 := ((hz1.up hB2).up hB3).up hB4; have c5 := rooms_any L pL cL w4 hsl4 (by omega))
    | (go_at_call_of 14 (Value.int .i64 5); refine (m5 _).mono ?_; rintro _ w' ⟨rfl, hw'⟩; replace hw' := hw'.symm; subst hw')
    | (go_at_call_of 14 (Value.int .i64 1000); refine (m1 _).mono ?_; rintro _ w' ⟨rfl, hw'⟩; replace hw' := hw'.symm; subst hw')
    | (go_at_call 14; refine (mk _).mono ?_; rintro _ w' ⟨rfl, hw'⟩; replace hw' := hw'.symm; subst hw'))
      go_quiet (fail)
      go_wp2_with fail
      obtain ⟨wq, hwq⟩ : ∃ wq, wq = w5.drewN nq := ⟨_, rfl⟩
      have hgw : w.heap.size ≤ gd := by have := hB1.size; have := hB2.size; have := hB3.size; have := hB4.size; omega
      have u7 : wq.cell? ⟨ga, oa + J, none⟩ = some (.int .i64 A') := by rw [hwq]; exact x7
      have u8 : wq.cell? ⟨g8, o8 + J * 2, none⟩ = some (.int .i64 S') := by rw [hwq]; exact x8
      have uf : wq.frozen? ⟨gd, K * 2 + 1, none⟩ = false := by rw [hwq]; exact hfd (K * 2 + 1)
      have uy : wq.cell? ⟨gd, K * 2 + 1, none⟩ = some (.int .i64 O) := by rw [hwq]; exact y1
      have hrq : RmRow wq.drew (some ⟨gd, 0, none⟩) w5.heap.size L := by rw [hwq]; exact ⟨hrd.left.c⟩
      have rw1 := RmRow.set1 hrq pl (A' + S' - 1)
      have HBs : Hid (Below w.heap.size w5 (wq.drew.setCell ⟨gd, K * 2 + 1, none⟩ (.int .i64 (A' + S' - 1)))) := by
        refine ⟨Below.trans ?_ (hBs _ gd _ _ hgw)⟩
        rw [hwq]
        exact (tdr (Below.refl _ w5)).drew
      have c6 := c6k (wq.drew.setCell ⟨gd, K * 2 + 1, none⟩ (.int .i64 (A' + S' - 1))) gd cd _ 70 hy.out (by decide) hyk (rw1.mono (by have := HBs.out.size; omega))
      rw [← hwq]
      clear hwq c6k hrq rw1 hza5 hsl5 hrd hza4 hsl4 y0 y1 x7 x8 za hfd
      go_region
      all_goals
        go_wp2_with (first
          | (go_at_call 10; refine c6.mono ?_; rintro _ w6 ⟨vf, rfl, hO6, hB6⟩; obtain ⟨pf, cf, rfl, hs6⟩ := hO6.sl)
          | (go_at_call 12; refine (num_any _ _).mono ?_; rintro _ w' ⟨rfl, hw'⟩; replace hw' := hw'.symm; subst hw'))
        go_ret
        exact ⟨rfl, hB1.trans ((hB2.mono hB1.size).trans ((hB3.mono (Nat.le_trans hB1.size hB2.size)).trans ((hB4.mono (Nat.le_trans hB1.size (Nat.le_trans hB2.size hB3.size))).trans ((hB5.mono (Nat.le_trans hB1.size (Nat.le_trans hB2.size (Nat.le_trans hB3.size hB4.size)))).trans (HBs.out.trans (hB6.mono (by have := HBs.out.size; have := hB1.size; have := hB2.size; have := hB3.size; have := hB4.size; have := hB5.size; omega)))))))⟩
end Go.Proofs.Ytjdinlgbfpkodaa
