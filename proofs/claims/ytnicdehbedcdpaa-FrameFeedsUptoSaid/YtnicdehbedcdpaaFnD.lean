/- The law FrameFeeds: the walk. -/
import Derived.Test.YtnicdehbedcdpaaFnH
import Derived.Test.YtnicdehbedcdpaaILy
import Derived.BigQuiet
namespace Go.Proofs.Ytnicdehbedcdpaa
open Go.ChangeShapes Go.WideShapes Go.ChangeAt Go.RowKit

/-- What stands at the loop's head. -/
def FAt (w : World) (i : Nat) (s : FS) (W : World) : Prop := FInv W w.heap.size (i * 1048576) s ∧ Below w.heap.size w W
theorem ent_rf : ∀ ag w, (callFunc 22 ag).run Try.prog w = .ok (.enter 22 ag) w := enters_of Try.func22 (by kernel_rfl) rfl
theorem ent_fd : ∀ ag w, (callFunc 12 ag).run Try.prog w = .ok (.enter 12 ag) w := enters_of Try.func12 (by kernel_rfl) rfl
set_option maxRecDepth 100000 in
set_option maxHeartbeats 8000000 in
theorem Feeds_any (lim : Int) (ops : List OpT) (pp : Option Addr) (cp : Nat) (w : World) (hR : OpRow w pp w.heap.size ops) (hl : ops.length ≤ 1048576) (hb : ∀ t ∈ ops, t.b.length ≤ 1048576) :
    Calls Try.prog 6 #[.int .i64 lim, .slice pp ops.length cp] w fun e w' => e = .returned (.bool true) ∧ Below w.heap.size w w' := by
  have hi0 := FInv.init w lim
  have hB0 : Below w.heap.size w ((((((w.alloc (.cells #[.slice none 0 0, .int .i64 0, .int .i64 lim, .int .i64 0] 62)).alloc (.cells #[.slice none 0 0, .int .i64 0, .int .i64 lim, .int .i64 0] 62)).alloc (.cells #[pt w.heap.size, pt (w.heap.size + 1)] 50)).alloc (.cells #[.int .i64 lim, .string ⟨#[]⟩, .int .i64 0] 70)).alloc (.cells #[.int .i64 lim, .string ⟨#[]⟩, .int .i64 0] 70)).alloc (.cells #[pt (w.heap.size + 3), pt (w.heap.size + 4)] 53)) := by
    refine (((((((Below.refl _ w).alloc (Nat.le_refl _) _).alloc ?_ _).alloc ?_ _).alloc ?_ _).alloc ?_ _).alloc ?_ _)
    all_goals simp
    all_goals omega
  generalize hN : ops.length = NO at hl ⊢
  go_enter Try.func6, Try.ntmps6
  go_wp2_with (first
    | (go_at_call 9; refine (New_any _ _).mono ?_; rintro _ _ ⟨rfl, rfl⟩)
    | (go_at_call 21; refine (refNew_any _ _).mono ?_; rintro _ _ ⟨rfl, rfl⟩))
  have hst : Go.RowKit.Hid (FAt w 0 (fs0 w.heap.size lim) _) := ⟨by rw [Nat.zero_mul]; exact hi0, hB0⟩
  clear hi0 hB0
  go_loopw [7, 8] (fun b c wr => ∃ (s : FS) (i : Nat), b = s.vb ∧ c = .int .i64 (i : Int) ∧ i ≤ NO ∧ i ≤ 200 ∧ s.es.length ≤ i ∧ s.x5 = w.heap.size + 1 + 1 ∧ s.x6 = w.heap.size + 1 + 1 + 1 + 1 + 1 ∧ Go.RowKit.Hid (FAt w i s wr)) (fun _ c _ => 200 - (intOf c).toNat)
  case atStart => exact ⟨fs0 w.heap.size lim, 0, rfl, rfl, Nat.zero_le _, by omega, Nat.le_refl _, rfl, rfl, hst⟩
  case round =>
    obtain ⟨s, i, rfl, rfl, hi, hi2, hel, hx5, hx6, hS⟩ := hrel
    by_cases hlt : i < NO
    · by_cases hlt2 : i < 200
      · obtain ⟨hF, hB⟩ := hS
        have hx : ops[i]? = some ops[i] := List.getElem?_eq_getElem (by omega)
        have htb := hb ops[i] (List.getElem_mem (by omega))
        obtain ⟨g, o, pb, cb, rfl, hg, q0, q1, q2, q3, hcb, hBr⟩ := hR.c i _ hx
        have r0 := (hB.cell (p := ⟨g, o + i * 4, none⟩) hg).trans q0
        have r1 := (hB.cell (p := ⟨g, o + i * 4 + 1, none⟩) hg).trans q1
        have r2 := (hB.cell (p := ⟨g, o + i * 4 + 2, none⟩) hg).trans q2
        have r3 := (hB.cell (p := ⟨g, o + i * 4 + 3, none⟩) hg).trans q3
        have hBr1 := hBr.below hB
        generalize ops[i] = t at *
        clear q0 q1 q2 q3 hR hb hx hBr
        have hlti : (i : Int) < (NO : Int) := by omega
        have hlti2 : (i : Int) < 200 := by omega
        obtain ⟨a, hal, haI⟩ : ∃ a : Nat, a < 2 ∧ bits .and .i64 t.a 1 = (a : Int) := by
          rcases i64_and1 t.a with h | h
          · exact ⟨0, by omega, h⟩
          · exact ⟨1, by omega, h⟩
        have bO := bel1 wr (.cells #[.int .i64 t.k, .int .i64 t.a, .int .i64 t.n, .slice pb t.b.length cb] 56)
        have hO := heap_nw wr (.cells #[.int .i64 t.k, .int .i64 t.a, .int .i64 t.n, .slice pb t.b.length cb] 56)
        have hF1 := hF.keep bO
        obtain ⟨hp5, hp6⟩ := hF1.p hal
        rw [hx5] at hp5
        rw [hx6] at hp6
        have hal2 : (a : Int) < 2 := by omega
        go_upto_block 2 with fail
        have hB1 : Below w.heap.size w (wr.alloc (.cells #[.int .i64 t.k, .int .i64 t.a, .int .i64 t.n, .slice pb t.b.length cb] 56)) := hB.trans (bO.mono hB.size)
        have hz1 : (wr.alloc (.cells #[.int .i64 t.k, .int .i64 t.a, .int .i64 t.n, .slice pb t.b.length cb] 56)).heap.size = wr.heap.size + 1 := by rw [World.size_alloc]
        have hBr2 := hBr1.below (bO.mono hB.size)
        generalize wr.alloc (.cells #[.int .i64 t.k, .int .i64 t.a, .int .i64 t.n, .slice pb t.b.length cb] 56) = W1 at *
        have hltO : ∀ j k, s.hot j = some k → w.heap.size ≤ k ∧ k < wr.heap.size := hF.lt
        clear hF hBr1 bO r0 r1 r2 r3 hB
        generalize wr.heap.size = O at *
        have hOl : O < W1.heap.size := by omega
        go_cut [7] from 38 to 178 (fun b wx => ∃ s' : FS, b = s'.vb ∧ s'.es.length ≤ i + 1 ∧ s'.x5 = w.heap.size + 1 + 1 ∧ s'.x6 = w.heap.size + 1 + 1 + 1 + 1 + 1 ∧ Go.RowKit.Hid (FAt w (i + 1) s' wx))
        case first => as_aux_lemma =>
          have y0 := cellA hO 0
          have y1 := cellA hO 1
          have y2 := cellA hO 2
          have y3 := cellA hO 3
          by_cases hk0 : t.k = 0
          · obtain ⟨g1, g2, g3, g4, g5⟩ := hF1.fr a hal
            have hkb : (t.k == 0) = true := by rw [hk0]; rfl
            have hbt : ∀ b ∈ t.b, b < 256 := hBr2.lt
            have hd : ∀ W : World, Below W.heap.size W W.drew := fun W => (Below.refl _ _).drew
            have kc13 := ((hBr2.below ((hd W1).mono hB1.size)).conv cb)
            have hLl : (s.L a).length + t.b.length ≤ 1000000000 := by omega
            have hrf := refFeed_all (g3.below (hd W1)) g4 hbt hLl
            rw [hk0] at y0
            obtain ⟨k4, k2, k6, n1, n2, n3, n4, n5, n6⟩ := hF1.hots hal
            have bQ := hltO _ _ k4
            have bP := hltO _ _ k2
            have bV : ∀ k, (s.v a).ownBlock = some k → w.heap.size ≤ k ∧ k < O := fun k hk => hltO (6 + a) k (by rw [k6]; exact hk)
            have bB : ∀ k, s.vb.ownBlock = some k → w.heap.size ≤ k ∧ k < O := fun k hk => hltO 8 k hk
            have uO : ∀ W, Un s a W1 W → W.heap[O]? = W1.heap[O]? := fun W h => h.block O hOl (by omega) (by omega) (fun e => by have := (bV O e).2; omega)
            have uB : ∀ W, Un s a W1 W → Below w.heap.size W1 W := fun W h => h.low hB1.size bQ.1 bP.1 (fun k hk => (bV k hk).1)
            have hlx5 := hF1.lt 0 s.x5 rfl
            have hlx6 := hF1.lt 1 s.x6 rfl
            have uX5 : ∀ W, Un s a W1 W → W.heap[s.x5]? = W1.heap[s.x5]? := fun W h => h.block _ hlx5.2 (fun e => hF1.ap 0 (4 + a) (by omega) s.x5 rfl (by rw [k4, e])) (fun e => hF1.ap 0 (2 + a) (by omega) s.x5 rfl (by rw [k2, e])) (fun e => hF1.ap 0 (6 + a) (by omega) s.x5 rfl (by rw [k6]; exact e))
            have U1 : Un s a W1 W1.drew := (Un.refl s a W1).below (hd W1) (Nat.le_refl _)
            go_upto_region 13 with fail
            obtain ⟨ps, hps⟩ : ∃ ps, stZ (s.lim a) (s.L a) (s.er a) t.b = ps := ⟨_, rfl⟩
            rw [hps] at hrf
            obtain ⟨p, q, p0, yX, yB, kcp⟩ : ∃ p : World → Prop, (∀ V, p V ↔ (V.heap[s.x6]? = W1.heap[s.x6]? ∧ V.heap[O]? = W1.heap[O]? ∧ Below w.heap.size W1 V)) ∧ p W1.drew ∧ (∀ θ : CW p, θ.w.cell? ⟨w.heap.size + 1 + 1 + 1 + 1 + 1, a, none⟩ = some (pt (s.Q a))) ∧ (∀ θ : CW p, θ.w.cell? ⟨O, 3, none⟩ = some (.slice pb t.b.length cb)) ∧ ∀ θ : CW p, (convert 33 9 (.slice pb t.b.length cb)).run Try.prog θ.w = .ok (.string (sOf t.b)) θ.w :=
              ⟨_, fun _ => Iff.rfl, ⟨rfl, rfl, (hd W1).mono hB1.size⟩, fun θ => (World.cell?_of_block (a := ⟨w.heap.size + 1 + 1 + 1 + 1 + 1, a, none⟩) (by rw [← hx6]; exact θ.h.1)).trans hp6, fun θ => (World.cell?_of_block (a := ⟨O, 3, none⟩) θ.h.2.1).trans y3, fun θ => (hBr2.below θ.h.2.2).conv cb⟩
            have pN : Nonempty (CW p) := ⟨⟨_, p0⟩⟩
            have LX : ∀ V, (∃ θ : CW p, V = θ.w) → (Instr.loadAt 51 (.pointer (some ⟨w.heap.size + 1 + 1 + 1 + 1 + 1, a, none⟩))).run Try.prog V = .ok (pt (s.Q a)) V := fun V ⟨θ, e⟩ => by subst e; have := yX θ; simp [go_sem, this]
            refine wp_region_ly (fun V => ∃ θ : CW p, V = θ.w) (by kernel_rfl) (by kernel_rfl) (fun _ _ d _ _ h => by cases d <;> exact h) ⟨⟨_, p0⟩, rfl⟩ ?_
            repeat (first | (guard_target =~ Ly _ _ _ _ (Oper.mk _ (Op.call { callee := .value _, args := _, argTypes := _ }) _ _ _ _ :: _) _ _; fail) | (refine ly_one rfl ?_; (first | go_big_quiet_skip | (go_big_quiet_want; go_big_quiet_op; go_big_quiet_on)); refine wpQuiet_nil ?_))
            refine ly_call2 ent_rf (R := fun r w2 => ∃ pR cR, r = .tuple #[.slice pR ps.1.length cR, .int .i64 ps.2.1] ∧ PRow w2 pR w2.heap.size ps.1 ∧ RF w2 (s.Q a) ps.2.2 (s.lim a) ps.2.1 ∧ Kx (s.Q a) none W1.drew w2 ∧ ∀ x, pR = some x → W1.drew.heap.size ≤ x.block) (hrf.mono fun e w' ⟨pp, cp, he, h⟩ => ⟨_, he, pp, cp, rfl, h⟩) rfl rfl (by rfl) ?_
            rintro _ w2 ⟨pR, cR, rfl, hPR, hRR, hKR, hPRb⟩
            have U2 := U1.ref hKR
            have hx6n : s.x6 ≠ s.Q a := fun e => hF1.ap 1 (4 + a) (by omega) s.x6 rfl (by rw [k4, e])
            have hx6l := (hF1.lt 1 s.x6 rfl).2
            refine ⟨fun V => ∃ θ : CW p, V = θ.w, fun _ h => h, ⟨⟨w2, (q _).2 ⟨hKR.block s.x6 hx6l hx6n (by simp), uO _ U2, uB _ U2⟩⟩, rfl⟩, ?_⟩
            simp only [pts]
            repeat (refine ly_one rfl ?_; (first | go_big_quiet_skip | (go_big_quiet_want; go_big_quiet_op; go_big_quiet_on)); refine wpQuiet_nil ?_)
            refine ly_done ?_
            have g1b := (g1.below (hd W1)).kx hKR.size (hKR.block _ (by show s.P a < W1.heap.size; omega) n1 (by simp)) (fun k hk => hKR.block k (by have := (bV k hk).2; show k < W1.heap.size; omega) (fun e => n2 (e ▸ hk)) (by simp))
            have g2b : Buf w2 w.heap.size (s.v a) (s.L a) := ownSame (g2.below (hd W1)) (fun k hk => hKR.block k (by have := (bV k hk).2; show k < W1.heap.size; omega) (fun e => n2 (e ▸ hk)) (by simp))
            have hO2 := (uO _ U2).trans hO
            have hBr4 := hBr2.below (uB _ U2)
            have hz2 : W1.heap.size ≤ w2.heap.size := U2.size
            clear hrf kcp LX yX yB p0 q g1 g2 g3 hKR
            have z3 := cellA hO2 3
            have ap1 := tbufAppend (Buf.nil w2 w2.heap.size) (hBr4.src cb) (by simp; omega) (Nat.le_refl _)
            rw [List.nil_append] at ap1
            go_upto_region 16 with (at_builtin; go_must (refine (wpList_append_ex (by rfl) _ _ _ _ (by rfl) _ _ (by rfl) (by rfl) _ ap1 ?_)); rintro vA w3 ⟨hA1, hA2, _, _⟩)
            have U3 := U2.below hA2 hz2
            obtain ⟨pA, cA, rfl⟩ := own_sl hA1
            have hl1 : w3.heap[w3.heap.size]? = none := Array.getElem?_eq_none (Nat.le_refl _)
            have bL := bel1 w3 (.cells #[.int .u8 201] 5)
            have hz3 : w2.heap.size ≤ w3.heap.size := hA2.size
            have sL : Src Try.prog 1 33 (.slice (some ⟨w3.heap.size, 0, none⟩) 1 1) 1 (([201] : List Nat).map cU) (w3.alloc (.cells #[.int .u8 201] 5)) := Src.ofSlice _ Try.underlying33 ⟨w3.heap.size, 0, none⟩ 1 1 _ rfl (World.news_of_block (heap_nw w3 _)) (cU_one _)
            have ap2 := tbufAppend (M := [201]) (hA1.below bL) sL (by show t.b.length + 1 ≤ 140737488355328; omega) (by rw [World.size_alloc]; omega)
            go_upto_region 17 with (at_builtin; go_must (refine (wpList_append_ex (by rfl) _ _ _ _ (by rfl) _ _ (by rfl) (by rfl) _ ap2 ?_)); rintro vB w4 ⟨hC1, hC2, _, _⟩)
            have U4 := U3.below ((bL.mono hz3).trans hC2) hz2
            have b24 : Below w2.heap.size w2 w4 := hA2.trans ((bL.mono hz3).trans hC2)
            clear ap1 ap2 sL hA1 hA2 hC2 U2 U3 bL hl1
            obtain ⟨gO, cO, rfl, hcO, hBo, hx201, hg1, hg2, hgf⟩ := hC1.tail hbt
            have hO4 := (uO _ U4).trans hO
            have z43 := cellA hO4 3
            have g1c : Fr w4 w.heap.size (s.P a) (s.v a) (s.L a) 0 (s.lim a) (s.er a) := g1b.below b24
            have g2c : Buf w4 w.heap.size (s.v a) (s.L a) := g2b.below b24
            have hfd := fun (h1 : Fr w4.drew w.heap.size (s.P a) (s.v a) (s.L a) 0 (s.lim a) (s.er a)) h2 => Feed_all (cx := cO) h1 h2 (fun W hW => (hBo.below (((hd w4).mono (Nat.le_refl _)).trans hW)).src cO) hbt hLl
            rw [hps] at hfd
            have hcOi : (t.b.length : Int) ≤ (cO : Int) := by omega
            obtain ⟨p2, q2, p02, yX2, yB2⟩ : ∃ p : World → Prop, (∀ V, p V ↔ (V.heap[s.x5]? = w4.heap[s.x5]? ∧ V.heap[O]? = w4.heap[O]?)) ∧ p w4.drew ∧ (∀ θ : CW p, θ.w.cell? ⟨w.heap.size + 1 + 1, a, none⟩ = some (pt (s.P a))) ∧ (∀ θ : CW p, θ.w.cell? ⟨O, 3, none⟩ = some (.slice pb t.b.length cb)) :=
              ⟨_, fun _ => Iff.rfl, ⟨rfl, rfl⟩, fun θ => (World.cell?_of_block (a := ⟨w.heap.size + 1 + 1, a, none⟩) (by rw [← hx5]; exact θ.h.1.trans (uX5 _ U4))).trans hp5, fun θ => (World.cell?_of_block (a := ⟨O, 3, none⟩) θ.h.2).trans z43⟩
            have pN2 : Nonempty (CW p2) := ⟨⟨_, p02⟩⟩
            refine wp_region_ly (fun V => ∃ θ : CW p2, V = θ.w) (by kernel_rfl) (by kernel_rfl) (fun _ _ d _ _ h => by cases d <;> exact h) ⟨⟨_, p02⟩, rfl⟩ ?_
            repeat (first | (guard_target =~ Ly _ _ _ _ (Oper.mk _ (Op.call { callee := .value _, args := _, argTypes := _ }) _ _ _ _ :: _) _ _; fail) | (refine ly_one rfl ?_; (first | go_big_quiet_skip | (go_big_quiet_want; go_big_quiet_op; go_big_quiet_on)); refine wpQuiet_nil ?_))
            refine ly_call2 ent_fd (R := fun r w5 => ∃ pp cp v', r = .tuple #[.slice pp ps.1.length cp, .int .i64 ps.2.1] ∧ POwn w5 w4.drew.heap.size (.slice pp ps.1.length cp) ps.1 ∧ Fr w5 w.heap.size (s.P a) v' ps.2.2 0 (s.lim a) ps.2.1 ∧ Buf w5 w.heap.size v' ps.2.2 ∧ Kx (s.P a) (s.v a).ownBlock w4.drew w5 ∧ (∀ k, v'.ownBlock = some k → (s.v a).ownBlock = some k ∨ w4.drew.heap.size ≤ k) ∧ ∀ k, (Value.slice pp ps.1.length cp).ownBlock = some k → v'.ownBlock ≠ some k) ((hfd (g1c.below (hd w4)) (g2c.below (hd w4))).mono fun e w' ⟨pp, cp, v', he, h⟩ => ⟨_, he, pp, cp, v', rfl, h⟩) rfl rfl (by rfl) ?_
            rintro _ w5 ⟨pM, cM, v', rfl, hPM, hFM, hBM, hKM, hvM, hnM⟩
            have U5 := (U4.below (hd w4) U4.size).feed hKM
            refine ⟨fun V => ∃ θ : CW p2, V = θ.w, fun _ h => h, ⟨⟨w5, (q2 _).2 ⟨(uX5 _ U5).trans (uX5 _ U4).symm, (uO _ U5).trans (uO _ U4).symm⟩⟩, rfl⟩, ?_⟩
            simp only [pts]
            repeat (refine ly_one rfl ?_; (first | go_big_quiet_skip | (go_big_quiet_want; go_big_quiet_op; go_big_quiet_on)); refine wpQuiet_nil ?_)
            refine ly_done ?_
            have hz4 : w2.heap.size ≤ w4.heap.size := b24.size
            have hz5 : w4.heap.size ≤ w5.heap.size := hKM.size
            have hPb : s.P a < W1.heap.size := by omega
            have uH : ∀ k, W1.heap.size ≤ k → k < w4.heap.size → w5.heap[k]? = w4.heap[k]? := fun k h1 h2 => hKM.block k h2 (by omega) (fun e => by have := (bV k e).2; omega)
            have hPR5 : PRow w5 pR w5.heap.size ps.1 := (hPR.of (w' := w5) fun x hx hlx => by
              have h1 := hPRb x hx
              have h1' : W1.heap.size ≤ x.block := h1
              exact (uH _ h1' (by omega)).trans (b24.block _ hlx)).mono (by omega)
            have hPM5 : PRow w5 pM w5.heap.size ps.1 := hPM.row
            have r201 := (World.cell?_of_block (a := ⟨gO, t.b.length, none⟩) (uH gO (by omega) hg2)).trans hx201
            have hBo5 : BRow w5 (some ⟨gO, 0, none⟩) w5.heap.size t.b := ⟨fun j x hx => by
              obtain ⟨g', o', e, h1, h2⟩ := hBo.c j x hx
              cases e
              exact ⟨gO, 0, rfl, by omega, (World.cell?_of_block (a := ⟨gO, 0 + j, none⟩) (uH gO (by omega) hg2)).trans h2⟩, hBo.lt, hBo.nil, hBo.sp⟩
            have z53 := cellA ((uO _ U5).trans hO) 3
            have kcA : ∀ n, (convert 33 9 (.slice (some ⟨gO, 0, none⟩) t.b.length cO)).run Try.prog (w5.drewN n) = .ok (.string (sOf t.b)) (w5.drewN n) := fun n => (hBo5.below (below_drewN (Below.refl _ _) n)).conv cO
            have kcB : ∀ n, (convert 33 9 (.slice pb t.b.length cb)).run Try.prog (w5.drewN n) = .ok (.string (sOf t.b)) (w5.drewN n) := fun n => (hBr2.below ((uB _ U5).trans (below_drewN (Below.refl w.heap.size w5) n))).conv cb
            have hpl : ps.1.length ≤ 9223372036854775000 := by have := (stZ_len (s.lim a) (s.L a) (s.er a) t.b).2; rw [hps] at this; omega
            have cSm := fun n => same_d ps.1 pM pR cM cR w5.heap.size (w5.drewN n) (hPM5.below (below_drewN (Below.refl _ _) n)) (hPR5.below (below_drewN (Below.refl _ _) n)) hpl
            clear hfd yX2 yB2 q2 p02 pN2
            go_upto_region 18 with fail
            go_quiet ((first
              | (go_at_call 13; exact Calls.quiet_of_same (num_any _ _))
              | (go_at_call 15; exact Calls.quiet_of (cSm _))))
            have hcell : ∀ j, j < t.b.length + 1 → ∃ y : Int, (w5.drewN nq).cell? ⟨gO, j, none⟩ = some (.int .u8 y) := fun j hj => by
              by_cases hjl : j < t.b.length
              · obtain ⟨g', o', e, _, h2⟩ := hBo5.c j t.b[j] (List.getElem?_eq_getElem hjl)
                cases e
                rw [Nat.zero_add] at h2
                exact ⟨_, h2⟩
              · have : j = t.b.length := by omega
                subst this
                exact ⟨_, r201⟩
            have hfro : ∀ o, (w5.drewN nq).frozen? ⟨gO, o, none⟩ = false := fun o => (World.frozen?_of_block (a := ⟨gO, o, none⟩) (uH gO (by omega) hg2)).trans (hgf o)
            have U6 : Un s a W1 (w5.drewN nq) := U5.below (below_drewN (Below.refl w5.heap.size w5) nq) U5.size
            have hFM6 := hFM.drewN nq
            have hBM6 : Buf (w5.drewN nq) _ _ _ := hBM.below (below_drewN (Below.refl _ _) nq)
            have hRR6 : RF (w5.drewN nq) (s.Q a) ps.2.2 (s.lim a) ps.2.1 := (((hRR.below b24).below (hd w4)).same (hKM.block (s.Q a) (by show s.Q a < w4.heap.size; omega) (fun e => n1 e.symm) n2) hKM.size).below (below_drewN (Below.refl _ _) nq)
            have hPM6 : POwn (w5.drewN nq) _ _ _ := hPM.below (below_drewN (Below.refl _ _) nq)
            have hz6 : (w5.drewN nq).heap.size = w5.heap.size := rfl
            clear kcA kcB cSm r201 hBo5 z53 hBo hx201
            generalize w5.drewN nq = w6 at *
            go_upto_block 3 with fail
            go_cut [16] from 38 to 178 (fun _ wx => Go.RowKit.Hid (Kx gO none w6 wx))
            case first => as_aux_lemma =>
              go_wp2_with fail
              go_loopw [16] (fun c wr => ∃ j : Nat, j ≤ t.b.length + 1 ∧ c = .int .i64 (j : Int) ∧ Go.RowKit.Hid (Kx gO none w6 wr ∧ (∀ o, wr.frozen? ⟨gO, o, none⟩ = false) ∧ ∀ j, j < t.b.length + 1 → ∃ y : Int, wr.cell? ⟨gO, j, none⟩ = some (.int .u8 y))) (fun c _ => t.b.length + 1 - (intOf c).toNat)
              case atStart => exact ⟨0, Nat.zero_le _, rfl, Kx.refl _ _ _, hfro, hcell⟩
              case round =>
                obtain ⟨j, hj, rfl, hK, hf, hc⟩ := hrel
                by_cases hlj : j < t.b.length + 1
                · obtain ⟨y, hy⟩ := hc j hlj
                  have hfj := hf j
                  have hlji : (j : Int) < (t.b.length : Int) + 1 := by omega
                  have hst : ∀ v : Value, Go.RowKit.Hid (∀ z : Int, v = .int .u8 z → Kx gO none w6 (wr.setCell ⟨gO, j, none⟩ v) ∧ (∀ o, (wr.setCell ⟨gO, j, none⟩ v).frozen? ⟨gO, o, none⟩ = false) ∧ ∀ j', j' < t.b.length + 1 → ∃ y : Int, (wr.setCell ⟨gO, j, none⟩ v).cell? ⟨gO, j', none⟩ = some (.int .u8 y)) := fun v z hv => by
                    refine ⟨hK.trans (Kx.set gO j none wr v), fun o => by rw [World.frozen?_setCell]; exact hf o, fun j' hj' => ?_⟩
                    by_cases e : j' = j
                    · subst e
                      exact ⟨z, by rw [World.cell?_setCell_same wr ⟨gO, j', none⟩ v hy, hv]⟩
                    · obtain ⟨y', hy'⟩ := hc j' hj'
                      exact ⟨y', (World.cell?_setCell_other wr _ _ _ (fun e' => e (by injection e' with _ e2; exact e2.symm))).trans hy'⟩
                  clear hK hf hc
                  go_wp2_with fail
                  exact ⟨⟨j + 1, by omega, by go_num, hst _ _ rfl⟩, by simp [intOf]; omega⟩
                · have hlji : ¬ (j : Int) < (t.b.length : Int) + 1 := by omega
                  have hKH : Go.RowKit.Hid (Kx gO none w6 wr) := hK
                  clear hc hf hK
                  go_wp2_with fail
                  go_meet
                  case rel => exact hKH
            case rest => as_aux_lemma =>
              have hgW : W1.heap.size ≤ gO := by omega
              have hz67 : w6.heap.size ≤ wc.heap.size := hcut.size
              have U7 : Un s a W1 wc := U6.below (Kx.below hcut hgW U6.size) (Nat.le_refl _)
              have hPM7 : POwn wc w4.drew.heap.size (.slice pM ps.1.length cM) ps.1 := ownSame hPM6 fun k hk => hcut.block k (ownLt hPM6 hk).2 (by have h1 : w4.heap.size ≤ k := (ownLt hPM6 hk).1; omega) (by simp)
              have hv'g : ∀ k, v'.ownBlock = some k → k ≠ gO := fun k hk e => by
                rcases hvM k hk with h1 | h1
                · have := (bV k h1).2; omega
                · have h1' : w4.heap.size ≤ k := h1; omega
              have hFM7 := hFM6.kx hcut.size (hcut.block _ hFM6.lt (by omega) (by simp)) (fun k hk => hcut.block k (hFM6.buf.lt hk).2 (hv'g k hk) (by simp))
              have hBM7 : Buf wc w.heap.size v' ps.2.2 := ownSame hBM6 (fun k hk => hcut.block k (hFM6.buf.lt hk).2 (hv'g k hk) (by simp))
              have hRR7 := hRR6.same (hcut.block _ hRR6.lt (by omega) (by simp)) hcut.size
              obtain ⟨pB, cB, hvb⟩ := own_sl hF1.bk
              have hkp := keep_any ps.1 (.slice pM ps.1.length cM) (s.es.length : Int) w4.drew.heap.size wc hPM7 (by show w4.heap.size ≤ _; omega) (by have := (stZ_len (s.lim a) (s.L a) (s.er a) t.b).2; rw [hps] at this; omega) (by omega)
              have hbk7 : wc.ownsRow w.heap.size 43 3 s.vb s.es.length (entF s.es 0) := ownSame hF1.bk fun k hk => U7.block k (by have := (bB k hk).2; omega) (fun e => n4 (e ▸ hk)) (fun e => n5 (e ▸ hk)) (n6 k hk)
              clear hPM6 hFM6 hBM6 hRR6
              rw [hvb]
              go_wp2_with (first
                | (go_at_call 17; refine hkp.mono ?_; clear hkp; rintro _ w8 ⟨pg, cg, rfl, hL8, hG8, hB8, hk8, hl8⟩; have hbk8 : w8.ownsRow w.heap.size 43 3 s.vb s.es.length (entF s.es 0) := ownSame hbk7 fun k hk => hk8 k (by have := (bB k hk).2; omega) (fun e => by have h1 : w4.heap.size ≤ k := (ownLt hPM7 e).1; have := (bB k hk).2; omega); have hap := bk_ap (e := ⟨pM, ps.1.length, cM, pg, cg⟩) hbk8 (by omega) (by have := hB8.size; omega); rw [hvb] at hap)
                | (at_builtin; go_must (refine (wpList_append_ex (by rfl) _ _ _ _ (by rfl) _ _ (by rfl) (by rfl) _ hap ?_)); rintro vb' w9 ⟨hbk9, hB9, hk9, hl9⟩))
              go_meet
              case rel =>
                have hz8 := hB8.size
                have hz9 := hB9.size
                have hzc : wc.heap.size ≤ w8.heap.size := hz8
                have e45 : w4.drew.heap.size = w4.heap.size := rfl
                have pO : ∀ k, (Value.slice pM ps.1.length cM).ownBlock = some k → w4.heap.size ≤ k ∧ k < w5.heap.size := fun k hk => ownLt hPM hk
                have vO : ∀ k, v'.ownBlock = some k → ((s.v a).ownBlock = some k ∧ k < O) ∨ w4.heap.size ≤ k := fun k hk => (hvM k hk).imp (fun h => ⟨h, (bV k h).2⟩) id
                have u8 : ∀ k, k < wc.heap.size → (Value.slice pM ps.1.length cM).ownBlock ≠ some k → w8.heap[k]? = wc.heap[k]? := hk8
                have u9 : ∀ k, k < w8.heap.size → s.vb.ownBlock ≠ some k → w9.heap[k]? = w8.heap[k]? := fun k h1 h2 => hk9 k h1 (by rw [← hvb]; exact h2)
                have l9 : ∀ k, vb'.ownBlock = some k → (s.vb.ownBlock = some k ∧ k < O) ∨ w8.heap.size ≤ k := fun k hk => (hl9 k hk).imp (fun h => by rw [← hvb] at h; exact ⟨h, (bB k h).2⟩) id
                have hFl := hFM7.lt
                have hRl := hRR7.lt
                have vL : ∀ k, v'.ownBlock = some k → k < wc.heap.size := fun k hk => (hFM7.buf.lt hk).2
                have nP : ∀ k, k < O → (Value.slice pM ps.1.length cM).ownBlock ≠ some k := fun k hk e => by have := (pO k e).1; omega
                have hv8 : ∀ k, v'.ownBlock = some k → w8.heap[k]? = wc.heap[k]? := fun k hk => u8 k (vL k hk) (fun e => hnM k e hk)
                have hv9 : ∀ k, v'.ownBlock = some k → w9.heap[k]? = w8.heap[k]? := fun k hk => u9 k (by have := vL k hk; omega) (fun e => by
                  rcases vO k hk with ⟨h1, _⟩ | h1
                  · exact n6 k e h1
                  · have := (bB k e).2; omega)
                have hFM9 := (hFM7.kx hz8 (u8 _ hFl (nP _ bP.2)) hv8).kx hz9 (u9 _ (by omega) n5) hv9
                have hBM9 : Buf w9 w.heap.size v' ps.2.2 := ownSame (ownSame hBM7 hv8) hv9
                have hRR9 := (hRR7.same (u8 _ hRl (nP _ bQ.2)) hz8).same (u9 _ (by omega) n4) hz9
                have hst2 := stZ_len (s.lim a) (s.L a) (s.er a) t.b
                have hste := stZ_e (s.lim a) (s.L a) (s.er a) t.b
                rw [hps] at hst2 hste
                have r9 : ∀ (p : Option Addr) (n c : Nat) (l : List Pcl), POwn w8 w4.drew.heap.size (.slice p n c) l → PRow w9 p w9.heap.size l := fun p n c l h => (h.row.of fun x hx hl' => u9 _ hl' (fun e => by have h1 : w4.heap.size ≤ x.block := (POwn.blk h hx).2.1; have := (bB _ e).2; omega)).mono hz9
                refine ⟨s.turn a v' ps.2.2 ps.2.1 vb' ⟨pM, ps.1.length, cM, pg, cg⟩, rfl, by show (s.es ++ [_]).length ≤ _; simp; omega, hx5, hx6, ?_, ?_⟩
                · refine hF1.turn (by omega) a hal (by omega) v' vb' ps.2.2 ps.2.1 ⟨pM, ps.1.length, cM, pg, cg⟩ (fun k h1 h2 h3 h4 h5 => ?_) hFM9 hBM9 hRR9 hste (by omega) (fun k hk => (hvM k hk).imp id (fun h => by have h' : w4.heap.size ≤ k := h; omega)) hbk9 (fun k hk => (l9 k hk).imp (fun h => h.1) (fun h => by omega)) (fun k hk e => ?_) (r9 _ _ _ _ hL8) (r9 _ _ _ _ hG8) (by show ps.1.length ≤ _; omega) (fun x hx => ?_)
                  · exact (u9 k (by omega) h5).trans ((u8 k (by omega) (fun e => by have := (pO k e).1; omega)).trans (U7.block k h1 h2 h3 h4))
                  · rcases l9 k e with ⟨h1, h2⟩ | h1
                    · rcases vO k hk with ⟨h3, _⟩ | h3
                      · exact n6 k h1 h3
                      · omega
                    · have := vL k hk; omega
                  · rcases hx with hx | hx
                    · obtain ⟨b1, b2, b3⟩ := POwn.blk hL8 hx
                      have b2' : w4.heap.size ≤ x.block := b2
                      have b4 := (pO _ b1).2
                      exact ⟨by omega, by omega, fun e => hnM _ b1 e, fun e => by rcases l9 _ e with ⟨_, h⟩ | h <;> omega⟩
                    · obtain ⟨b1, b2, b3⟩ := POwn.blk hG8 hx
                      have b2' : w4.heap.size ≤ x.block := b2
                      refine ⟨by omega, by omega, fun e => ?_, fun e => by rcases l9 _ e with ⟨_, h⟩ | h <;> omega⟩
                      rcases hl8 _ b1 with h1 | h1
                      · exact hnM _ h1 e
                      · have := vL _ e; omega
                · exact hB1.trans ((uB _ U7).trans ((hB8.mono (by omega)).trans hB9))
          · by_cases hk1 : t.k = 1
            · have hkb0 : (t.k == 0) = false := beq_eq_false_iff_ne.2 hk0
              have hkb1 : (t.k == 1) = true := by rw [hk1]; rfl
              have hW1 : Go.RowKit.Hid (FInv W1 w.heap.size (i * 1048576) s) := hF1
              have hOy : O ≠ w.heap.size + 1 + 1 := by have := (hltO 0 _ rfl).2; omega
              obtain ⟨c5, f5, hN⟩ := hF1.newPair hz1 hal t.n hx5 hx6 _ hOy y2
              go_upto_region 27 with (go_at_call 9; refine (New_any _ _).mono ?_; rintro _ _ ⟨rfl, rfl⟩)
              generalize hW2 : World.setCell _ _ _ = W2
              obtain ⟨zW2, y22, c6, f6, hN2⟩ := hN W2 hW2.symm
              clear c5 f5 hN hW2
              go_wp2_with (go_at_call 21; refine (refNew_any _ _).mono ?_; rintro _ _ ⟨rfl, rfl⟩)
              generalize hW3 : World.setCell _ _ _ = W3
              obtain ⟨hF3, hB3⟩ := hN2 W3 hW3.symm
              clear c6 f6 hN2 hW3
              go_meet
              case rel => exact ⟨s.renew a (O + 1) (O + 1 + 1) t.n, rfl, by show s.es.length ≤ _; omega, hx5, hx6, hF3.mono (by omega), hB1.trans hB3⟩
            · have hkb0 : (t.k == 0) = false := beq_eq_false_iff_ne.2 hk0
              have hkb1 : (t.k == 1) = false := beq_eq_false_iff_ne.2 hk1
              have hI : Go.RowKit.Hid (FAt w (i + 1) s W1) := ⟨hF1.mono (by omega), hB1⟩
              clear hF1 hB1 hBr2 hltO
              go_wp2_with fail
              go_meet
              case rel => exact ⟨s, rfl, by omega, hx5, hx6, hI⟩
        case rest => as_aux_lemma =>
          obtain ⟨s', hub, hel', hx5', hx6', hI⟩ := hcut
          subst hub
          have hFc : FInv wc w.heap.size ((i + 1) * 1048576) s' := hI.1
          have hi18 : (i + 1) * 1048576 ≤ 1000000000 := by omega
          clear hF1 hB1 hBr2 hltO hp5 hp6 hO hcb
          go_wp2_with fail
          go_loopw [17] (fun c wr => ∃ k : Nat, k ≤ 2 ∧ c = .int .i64 (k : Int) ∧ Go.RowKit.Hid (∃ q, wr = wc.drewN q)) (fun c _ => 2 - (intOf c).toNat)
          case atStart => exact ⟨0, Nat.zero_le _, rfl, 0, rfl⟩
          case round =>
            obtain ⟨k, hk, rfl, hQ⟩ := hrel
            by_cases hk2 : k < 2
            · obtain ⟨hFr, hq2⟩ : FInv wr w.heap.size ((i + 1) * 1048576) s' ∧ Go.RowKit.Hid (∃ q, wr = wc.drewN q) := by
                obtain ⟨q, e⟩ := hQ
                exact ⟨by rw [e]; exact hFc.keep (below_drewN (Below.refl _ _) q), q, e⟩
              obtain ⟨g1, g2, g3, g4, g5⟩ := hFr.fr k hk2
              have hp5 := (hFr.p hk2).1
              have hp6 := (hFr.p hk2).2
              rw [hx5'] at hp5
              rw [hx6'] at hp6
              have r5 : ∀ n, (wr.drewN n).cell? ⟨w.heap.size + 1 + 1, k, none⟩ = _ := fun n => hp5
              have r6 : ∀ n, (wr.drewN n).cell? ⟨w.heap.size + 1 + 1 + 1 + 1 + 1, k, none⟩ = _ := fun n => hp6
              have hLl : (s'.L k).length ≤ 9223372036854770000 := by omega
              have c1 := fun n => Held_d (g1.drewN n) rfl
              have c2 := fun n => refHeld_d (g3.below (below_drewN (Below.refl _ _) n)) rfl
              have c3 := fun n => Need_d (g1.drewN n)
              have c4 := fun n => refNeed_d (g3.below (below_drewN (Below.refl _ _) n)) hLl
              have hki : (k : Int) < 2 := by omega
              have hkN : ((k : Int)).toNat = k := by omega
              generalize s'.P k = Pk at *
              generalize s'.Q k = Qk at *
              generalize (s'.L k).length = Nk at *
              generalize ndZ (s'.L k) (s'.er k) = Dk at *
              clear g1 g2 g3 g4 g5 hFr hQ hI hFc
              go_wp2_with fail
              go_quiet ((first
                | (go_at_call 10; exact Calls.quiet_of (c1 _))
                | (go_at_call 23; exact Calls.quiet_of (c2 _))
                | (go_at_call 11; exact Calls.quiet_of (c3 _))
                | (go_at_call 24; exact Calls.quiet_of (c4 _))))
              go_wp2_with fail
              go_roundw
              case rel =>
                obtain ⟨q, e⟩ := hq2
                exact ⟨k + 1, by omega, by go_num, q + nq, by rw [e]; exact drewN_add _ _ _⟩
              case measure => simp [intOf]; omega
            · obtain rfl : k = 2 := by omega
              clear hFc
              go_wp2_with fail
              go_roundw
              case rel =>
                obtain ⟨q, e⟩ := hQ
                refine ⟨s', i + 1, rfl, by go_num, by omega, by omega, hel', hx5', hx6', ?_, ?_⟩
                · rw [e]; exact hI.1.keep (below_drewN (Below.refl _ _) q)
                · rw [e]; exact hI.2.trans (below_drewN (Below.refl _ _) q)
              case measure => simp [intOf]; omega
      · rename World => w0
        obtain ⟨hF, hB⟩ := hS
        have hlti : (i : Int) < (NO : Int) := by omega
        have hlti2 : ¬ (i : Int) < 200 := by omega
        clear hR hb
        obtain ⟨pB, cB, hvb⟩ := own_sl hF.bk
        have hbook := fun (W : World) (hW : Below w0.heap.size w0 W) => (hF.keep hW).book hvb
        have hen := fun (W : World) (hW : Below w0.heap.size w0 W) => (hF.keep hW).en
        have hB' : Go.RowKit.Hid (Below w.heap.size w w0) := hB
        have hEl : s.es.length ≤ 200 := by omega
        have hz : w.heap.size ≤ w0.heap.size := hB.size
        clear hF hB
        rw [hvb]
        generalize hne : s.es.length = ne at *
        go_wp2_with fail
        go_loopw [18] (fun c W => ∃ k : Nat, k ≤ ne ∧ c = .int .i64 (k : Int) ∧ Go.RowKit.Hid (Below w0.heap.size w0 W)) (fun c _ => ne - (intOf c).toNat)
        case atStart => exact ⟨0, Nat.zero_le _, rfl, Below.refl _ _⟩
        case round =>
          obtain ⟨k, hk, rfl, hW⟩ := hrel
          by_cases hkn : k < ne
          · have hx : s.es[k]? = some s.es[k] := List.getElem?_eq_getElem (by omega)
            obtain ⟨g, rfl, q0, q1, q2⟩ := hbook wr hW k _ hx
            rw [Nat.zero_add] at q0 q1 q2
            obtain ⟨d1, d2, d3⟩ := hen wr hW k _ hx
            generalize s.es[k] = e at *
            have hh := holds_any e.n (k : Int) e.pa e.pb e.ca e.cb wr.heap.size wr d1 d2 (Nat.le_refl _) (by omega) (by omega)
            have hkni : (k : Int) < (ne : Int) := by omega
            have hWs : w0.heap.size ≤ wr.heap.size := hW.size
            clear hbook hen d1 d2
            go_wp2_with (go_at_call 18; refine hh.mono ?_; clear hh; rintro _ W2 ⟨rfl, hW2⟩)
            go_roundw
            case rel => exact ⟨k + 1, by omega, by go_num, Below.trans hW (hW2.mono hWs)⟩
            case measure => simp [intOf]; omega
          · obtain rfl : k = ne := by omega
            have hkni : ¬ (k : Int) < (k : Int) := by omega
            clear hbook hen
            go_wp2_with fail
            go_ret
            exact ⟨rfl, Below.trans hB' (Below.mono hW hz)⟩
    · rename World => w0
      obtain ⟨hF, hB⟩ := hS
      obtain rfl : i = NO := by omega
      have hlti : ¬ (i : Int) < (i : Int) := by omega
      clear hR hb
      obtain ⟨pB, cB, hvb⟩ := own_sl hF.bk
      have hbook := fun (W : World) (hW : Below w0.heap.size w0 W) => (hF.keep hW).book hvb
      have hen := fun (W : World) (hW : Below w0.heap.size w0 W) => (hF.keep hW).en
      have hB' : Go.RowKit.Hid (Below w.heap.size w w0) := hB
      have hEl : s.es.length ≤ 200 := by omega
      have hz : w.heap.size ≤ w0.heap.size := hB.size
      clear hF hB
      rw [hvb]
      generalize hne : s.es.length = ne at *
      go_wp2_with fail
      go_loopw [18] (fun c W => ∃ k : Nat, k ≤ ne ∧ c = .int .i64 (k : Int) ∧ Go.RowKit.Hid (Below w0.heap.size w0 W)) (fun c _ => ne - (intOf c).toNat)
      case atStart => exact ⟨0, Nat.zero_le _, rfl, Below.refl _ _⟩
      case round =>
        obtain ⟨k, hk, rfl, hW⟩ := hrel
        by_cases hkn : k < ne
        · have hx : s.es[k]? = some s.es[k] := List.getElem?_eq_getElem (by omega)
          obtain ⟨g, rfl, q0, q1, q2⟩ := hbook wr hW k _ hx
          rw [Nat.zero_add] at q0 q1 q2
          obtain ⟨d1, d2, d3⟩ := hen wr hW k _ hx
          generalize s.es[k] = e at *
          have hh := holds_any e.n (k : Int) e.pa e.pb e.ca e.cb wr.heap.size wr d1 d2 (Nat.le_refl _) (by omega) (by omega)
          have hkni : (k : Int) < (ne : Int) := by omega
          have hWs : w0.heap.size ≤ wr.heap.size := hW.size
          clear hbook hen d1 d2
          go_wp2_with (go_at_call 18; refine hh.mono ?_; clear hh; rintro _ W2 ⟨rfl, hW2⟩)
          go_roundw
          case rel => exact ⟨k + 1, by omega, by go_num, Below.trans hW (hW2.mono hWs)⟩
          case measure => simp [intOf]; omega
        · obtain rfl : k = ne := by omega
          have hkni : ¬ (k : Int) < (k : Int) := by omega
          clear hbook hen
          go_wp2_with fail
          go_ret
          exact ⟨rfl, Below.trans hB' (Below.mono hW hz)⟩
end Go.Proofs.Ytnicdehbedcdpaa
