/- The law LayMakes, part 3. -/
import Derived.Test.YtjdinlgbfpkodaaLMk0
namespace Go.Proofs.Ytjdinlgbfpkodaa
open Go.ChangeShapes Go.WideShapes Go.ChangeAt Go.RowKit Go.Shelf

set_option maxRecDepth 100000 in
set_option maxHeartbeats 16000000 in
theorem LayMakes_b3 (l : List Rm) (pp : Option Addr) (cp : Nat) (more : Int) (w : World) (hr : SlR w pp w.heap.size l) (hl : l.length ≤ 8796093021952) (hx : ∀ x ∈ l, x.ok) (hT0 : ¬ more % 100 = 0) (hEp : 0 < (madeZ l).2.2) :
    Calls Try.prog 5 #[.slice pp l.length cp, .int .i64 more] w fun r w' => r = .returned (.bool true) ∧ Below w.heap.size w w' := by
  have cM := made_any l pp cp w hr hl hx
  have hT : 0 ≤ more % 100 ∧ more % 100 < 100 := by omega
  have m1 := fun W => mod_any more 100 (by decide) (by decide) W
  generalize more % 100 = T at m1 hT hT0
  have hpl := placeZ_made l
  have hb := madeZ_b l
  have hok := madeZ_ok l
  have hat := madeZ_at_b l
  have hP1 := placeZ_at l ((madeZ l).2.2 + T) (by omega) (by omega)
  have hP2 := placeZ_short l
  have hP3 := plainZ_made l ((madeZ l).2.2 + T) (by omega) (by omega)
  have hP4 := placeZ_plain l ((madeZ l).2.2 + T) (by omega) (by omega)
  have hpt := plAt l
  have hPok := plR_ok (l.take 60) 0 (by decide) (by have := take60 l; omega)
  have hPln := plR_len (l.take 60) 0
  have hLln := (madeR_len (l.take 60) 0).1
  have hPL : (plR (l.take 60) 0).length = (madeZ l).1.length := by rw [hPln]; exact hLln.symm
  clear hPln hLln
  generalize plR (l.take 60) 0 = P at hP3 hP4 hpt hPok hPL
  generalize madeZ l = Z at cM hpl hb hok hat hP1 hP2 hP3 hP4 hpt hPL hEp
  obtain ⟨L, A, E⟩ := Z
  dsimp only at cM hpl hb hok hat hP1 hP2 hP3 hP4 hpt hPL hEp
  obtain ⟨hE0, hE1, hL60, hLA⟩ := hb
  have hAk : ∀ o ∈ A, i64ok o := fun o ho => by have := hat o ho; unfold i64ok; omega
  have hPlnH : Hid (P.length = L.length) := ⟨hPL⟩
  have hLAH : Hid (A.length = L.length) := ⟨hLA⟩
  have hB : E ≤ E + T ∧ E + T ≤ 6600 := by omega
  -- the calls
  have cMd : Calls Try.prog 9 #[.slice pp l.length cp] w fun r w' => ∃ pL cL pA cA, r = .returned (.tuple #[.slice pL L.length cL, .slice pA A.length cA, .int .i64 E]) ∧ Env w w' L A pL pA :=
    cM.mono fun r w' ⟨v, u, h0, h1, h2, h3⟩ => by
      obtain ⟨pL, cL, rfl, s1⟩ := h1.sl
      obtain ⟨pA, cA, rfl, s2⟩ := h2.sl
      exact ⟨pL, cL, pA, cA, h0, s1, s2, h3⟩
  have cR : ∀ W (X : List Rm) pX cX pL pA, X.length ≤ 60 → SlR W pX W.heap.size X → Env w W L A pL pA → Calls Try.prog 11 #[.slice pX X.length cX] W fun r w' => ∃ p c, r = .returned (.slice p X.length c) ∧ SlR w' p w'.heap.size X ∧ Env w w' L A pL pA ∧ Below W.heap.size W w' :=
    fun W X pX cX pL pA h0 h1 h2 => (rooms_any X pX cX W h1 (by omega)).mono fun r w' ⟨v, h0, hO, hb⟩ => by
      obtain ⟨p, c, rfl, s⟩ := hO.sl
      exact ⟨p, c, h0, s, h2.go hb, hb⟩
  have cP : ∀ W (X : List Rm) pX cX b off n er (who : Nat) pL pA, placeZ X b = ⟨off, n, er, who⟩ → X.length ≤ 60 → (∀ x ∈ X, x.ok) → SlR W pX W.heap.size X → Env w W L A pL pA → Calls Try.prog 10 #[.slice pX X.length cX, .int .i64 b] W fun r w' => ∃ p c, r = .returned (.tuple #[.slice p off.length c, .int .i64 n, .int .i64 er, .int .i64 (who : Int)]) ∧ SlZ w' p w'.heap.size off ∧ Env w w' L A pL pA :=
    fun W X pX cX b off n er who pL pA hz h0 hk h1 h2 => (Place_any X pX cX b W h1 (by omega) hk).mono fun r w' ⟨v, h0, hO, hb⟩ => by
      rw [hz] at h0 hO
      obtain ⟨p, c, rfl, s⟩ := hO.sl
      exact ⟨p, c, h0, s, h2.go hb⟩
  have cS : ∀ W p c pL pA cA, SlZ W p W.heap.size A → Env w W L A pL pA → Calls Try.prog 16 #[.slice p A.length c, .slice pA A.length cA] W fun r w' => r = .returned (.bool true) ∧ Env w w' L A pL pA :=
    fun W p c pL pA cA h1 h2 => (sameInts_self A p pA c cA W h1.row h2.a.row (by omega)).mono fun r w' ⟨h0, n, hn⟩ => ⟨h0, by rw [hn]; exact h2.drewN n⟩
  have cI : ∀ W pX pL pA cA, SlR W pX W.heap.size L → Env w W L A pL pA → Calls Try.prog 18 #[.slice pA A.length cA] W fun r w' => ∃ p c, r = .returned (.slice p A.length c) ∧ SlZ w' p w'.heap.size A ∧ SlR w' pX w'.heap.size L ∧ Env w w' L A pL pA :=
    fun W pX pL pA cA h1 h2 => (ints_any A pA cA W h2.a (by omega)).mono fun r w' ⟨v, h0, hO, hb⟩ => by
      obtain ⟨p, c, rfl, s⟩ := hO.sl
      exact ⟨p, c, h0, s, h1.up hb, h2.go hb⟩
  have cPl : ∀ W pX cX pY cY b kb pL pA, plainZ L A b = (P, kb, 0) → SlR W pX W.heap.size L → SlZ W pY W.heap.size A → Env w W L A pL pA → Calls Try.prog 19 #[.slice pX L.length cX, .slice pY A.length cY, .int .i64 b] W fun r w' => ∃ p c, r = .returned (.tuple #[.slice p P.length c, .int .i64 kb, .int .i64 0]) ∧ SlR w' p w'.heap.size P ∧ Env w w' L A pL pA :=
    fun W pX cX pY cY b kb pL pA hz h1 h3 h2 => (Plain_any L A pX pY cX cY b W h1 h3 (by omega) (by omega) hok hAk).mono fun r w' ⟨v, h0, hO, hb⟩ => by
      rw [hz] at h0 hO
      obtain ⟨p, c, rfl, s⟩ := hO.sl
      exact ⟨p, c, h0, s, h2.go hb⟩
  clear hr hx hl cM hat hPL hLA
  have hfin : Hid (∀ (W W' : World) (pL pA : Option Addr) (d : Nat), Env w W L A pL pA → W' = W.drewN d → Below w.heap.size w W') := ⟨fun W W' pL pA d h e => by rw [e]; exact tdr h.b⟩
  have hPL1 : ((P.length : Int) == (L.length : Int)) = true := beq_iff_eq.2 (by have := hPlnH.out; omega)
  have hPL2 : ((P.length : Int) != (L.length : Int)) = false := by rw [bne, hPL1]; rfl
  rw [if_neg (by omega)] at hP3 hP4
  have y1 : (E + T == E) = false := beq_eq_false_iff_ne.2 (by omega)
  have y2 : (E + T == -1) = false := beq_eq_false_iff_ne.2 (by omega)
  have y3 : (E + T != -1) = true := by rw [bne, y2]; rfl
  clear hT0
  have hP2 := hP2 hEp
  have F1 : Hid (1 = 1) := ⟨rfl⟩
  have F2 : Hid (1 = 1) := ⟨rfl⟩
  have F3 : Hid (1 = 1) := ⟨rfl⟩
  go_enter Try.func5, Try.ntmps5
  go_wp2_with (first
        | (go_at_call 9; refine cMd.mono ?_; rintro _ w1 ⟨pL, cL, pA, cA, rfl, env⟩)
        | (go_at_call 11; refine (cR _ L pL cL pL pA hL60 env.l env).mono ?_; rintro _ w1 ⟨p1, c1, rfl, hsl, env, _⟩)
        | (clear F1; go_at_call 10; refine (cP _ L _ _ (-1) A E 0 0 pL pA hpl hL60 hok hsl env).mono ?_; rintro _ w1 ⟨p2, c2, rfl, hz, env⟩)
        | (clear F2; go_at_call 10; refine (cP _ L _ _ (E + T) A (E + T) 0 0 pL pA hP1 hL60 hok hsl env).mono ?_; rintro _ w1 ⟨p2, c2, rfl, hz, env⟩)
        | (clear F3; go_at_call 10; refine (cP _ L _ _ (E - 1) [] 0 71 L.length pL pA hP2 hL60 hok hsl env).mono ?_; rintro _ w1 ⟨p2, c2, rfl, hz, env⟩)
        | (go_at_call 12; refine (num_any _ _).mono ?_; rintro _ w' ⟨rfl, hw'⟩; replace hw' := hw'.symm; subst hw')
        | (go_at_call 16; refine (cS _ _ _ pL pA cA hz env).mono ?_; rintro _ w1 ⟨rfl, env⟩)
        | (go_at_call 14; refine (m1 _).mono ?_; rintro _ w' ⟨rfl, hw'⟩; replace hw' := hw'.symm; subst hw')
        | (go_at_call 18; refine (cI _ _ pL pA cA hsl env).mono ?_; rintro _ w1 ⟨p3, c3, rfl, hz, hsl, env⟩)
        | (go_at_call 19; refine (cPl _ _ _ _ _ (E + T) (E + T) pL pA hP3 hsl hz env).mono ?_; rintro _ w1 ⟨p4, c4, rfl, hpl4, env⟩))
  go_loopw [24] (fun n wr => ∃ (j d : Nat), j ≤ P.length ∧ n = .int .i64 j ∧ Hid (wr = w1.drewN d)) (fun n _ => P.length - (RowKit.intOf n).toNat)
  case atStart => exact ⟨0, 0, Nat.zero_le _, by go_num, ⟨rfl⟩⟩
  case round =>
    obtain ⟨j, d, hj, rfl, hd⟩ := hrel
    by_cases hlt : j < P.length
    · have hltL : j < L.length := by have := hPlnH.out; omega
      have hltA : j < A.length := by have := hLAH.out; omega
      have i1 : (j : Int) < P.length := by omega
      have i2 : (j : Int) < L.length := by omega
      have i3 : (j : Int) < A.length := by omega
      obtain ⟨e, G, S, hAt⟩ := hpt j hltL
      obtain ⟨tp, ⟨O, tl⟩, ta, te, tg, ts, t0, th⟩ := hAt
      obtain ⟨g1, o1, rfl, _, q1, q2⟩ := hpl4.row.c j _ tp
      obtain ⟨g2, o2, e2, _, q3, _⟩ := env.l.row.c j _ tl
      obtain ⟨g3, o3, e3, _, q4⟩ := env.a.row.c j _ ta
      subst e2 e3
      have r1 : wr.cell? ⟨g1, o1 + j * 2, none⟩ = some (.int .i64 S) := by rw [hd.out]; exact q1
      have r2 : wr.cell? ⟨g1, o1 + j * 2 + 1, none⟩ = some (.int .i64 (if G = 0 then -1 else e + G)) := by rw [hd.out]; exact q2
      have r3 : wr.cell? ⟨g2, o2 + j * 2, none⟩ = some (.int .i64 S) := by rw [hd.out]; exact q3
      have r4 : wr.cell? ⟨g3, o3 + j, none⟩ = some (.int .i64 (e + G)) := by rw [hd.out]; exact q4
      clear q1 q2 q3 q4 tp tl ta
      by_cases hj0 : j = 0
      · have hjb : ¬ 0 < (j : Int) := by omega
        have he := t0 hj0
        subst he
        rw [Int.zero_add] at r2 r4
        clear cR cP cS cI cPl cMd hfin hpt hpl hP1 hP2 hP3 hP4 hpl4 env hsl hz hok hPok hAk m1
        by_cases hG : G = 0
        · rw [if_pos hG] at r2
          subst hG
          clear hj0
          go_wp2_with fail
          go_quiet (fail)
          go_wp2_with fail
          go_roundw
          case rel => exact ⟨j + 1, d + nq, by omega, by go_num, ⟨by rw [hd.out]; exact drewN_add _ _ _⟩⟩
          case measure => simp [RowKit.intOf]; omega
        · rw [if_neg hG] at r2
          have b1 : (G == -1) = false := beq_eq_false_iff_ne.2 (by omega)
          have b2 : (G == 0) = false := beq_eq_false_iff_ne.2 hG
          have b3 : (G != -1) = true := by rw [bne, b1]; rfl
          clear hj0
          go_wp2_with fail
          go_quiet (fail)
          go_wp2_with fail
          go_roundw
          case rel => exact ⟨j + 1, d + nq, by omega, by go_num, ⟨by rw [hd.out]; exact drewN_add _ _ _⟩⟩
          case measure => simp [RowKit.intOf]; omega
      · obtain ⟨J, hJ⟩ : ∃ J, j = J + 1 := ⟨j - 1, by omega⟩
        obtain ⟨S', O', A', jl, ja, jse, jA0, jA1, jS0, jS1⟩ := th J hJ
        obtain ⟨g5, o5, e5, _, q5, _⟩ := env.l.row.c J _ jl
        obtain ⟨g6, o6, e6, _, q6⟩ := env.a.row.c J _ ja
        cases e5
        cases e6
        have r5 : wr.cell? ⟨g2, o2 + J * 2, none⟩ = some (.int .i64 S') := by rw [hd.out]; exact q5
        have r6 : wr.cell? ⟨g3, o3 + J, none⟩ = some (.int .i64 A') := by rw [hd.out]; exact q6
        have hKJ : (j : Int) - 1 = (J : Int) := by omega
        have hjb : 0 < (j : Int) := by omega
        have hJl : J < L.length := by omega
        have hJa : J < A.length := by omega
        have hJl' : (J : Int) < L.length := by omega
        have hJa' : (J : Int) < A.length := by omega
        have hw1 : IntKind.i64.wrap (A' + S') = A' + S' := by rw [IntKind.wrap_i64]; omega
        have hw3 : IntKind.i64.wrap ((j : Int) - 1) = (J : Int) := by rw [hKJ, IntKind.wrap_i64]; omega
        have hw4 : IntKind.i64.wrap (J : Int) = (J : Int) := by rw [IntKind.wrap_i64]; omega
        subst jse
        clear hJ hj0 jl ja q5 q6 t0 th
        clear cR cP cS cI cPl cMd hfin hpt hpl hP1 hP2 hP3 hP4 hpl4 env hsl hz hok hPok hAk m1
        by_cases hG : G = 0
        · rw [if_pos hG] at r2
          subst hG
          rw [Int.add_zero] at r4
          go_wp2_with fail
          go_quiet (fail)
          go_wp2_with fail
          go_quiet (fail)
          go_wp2_with fail
          go_roundw
          case rel => exact ⟨j + 1, _, by omega, by go_num, ⟨by rw [hd.out]; exact drewN_add _ _ _⟩⟩
          case measure => simp [RowKit.intOf]; omega
        · rw [if_neg hG] at r2
          generalize hAO : A' + S' + G = AO at r2 r4
          have b1 : (AO == -1) = false := beq_eq_false_iff_ne.2 (by omega)
          have b2 : (AO == A' + S') = false := beq_eq_false_iff_ne.2 (by omega)
          have b3 : (AO != -1) = true := by rw [bne, b1]; rfl
          clear hAO hG
          go_wp2_with fail
          go_quiet (fail)
          go_wp2_with fail
          go_quiet (fail)
          go_wp2_with fail
          go_roundw
          case rel => exact ⟨j + 1, _, by omega, by go_num, ⟨by rw [hd.out]; exact drewN_add _ _ _⟩⟩
          case measure => simp [RowKit.intOf]; omega
    · obtain rfl : j = P.length := by omega
      have c9 := cR wr P p4 c4 pL pA (by have := hPlnH.out; omega) (by rw [hd.out]; exact hpl4.up (tdr (Below.refl _ w1))) (by rw [hd.out]; exact env.drewN d)
      go_wp2_with (first
        | (go_at_call 11; refine c9.mono ?_; rintro _ w9 ⟨p9, c9', rfl, hsl9, env9, _⟩)
        | (go_at_call 10; refine (cP _ P _ _ (E + T) A (E + T) 0 0 pL pA hP4 (by have := hPlnH.out; omega) hPok hsl9 env9).mono ?_; rintro _ w10 ⟨p10, c10, rfl, hz10, env10⟩)
        | (go_at_call 12; refine (num_any _ _).mono ?_; rintro _ w' ⟨rfl, hw'⟩; replace hw' := hw'.symm; subst hw')
        | (go_at_call 16; refine (cS _ _ _ pL pA cA hz10 env10).mono ?_; rintro _ w11 ⟨rfl, env11⟩))
      go_ret
      exact ⟨rfl, env11.b⟩
end Go.Proofs.Ytjdinlgbfpkodaa
