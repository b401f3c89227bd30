/- The law FrameChunks. -/
import Derived.Test.YtnicdehbedcdpaaFmY
import Derived.Test.YtnicdehbedcdpaaFmXb
namespace Go.Proofs.Ytnicdehbedcdpaa
open Go.ChangeShapes Go.WideShapes Go.ChangeAt Go.RowKit

/-- The framer behind m bytes, and what else stands. -/
def ChS (w2 : World) (G : List Pcl) (m : Nat) (W : World) : Prop := ∃ v, Fr W w2.heap.size w2.heap.size v (rsL G m) 0 (lgZ G : Int) 0 ∧ Buf W w2.heap.size v (rsL G m) ∧ Below w2.heap.size w2 W
set_option maxRecDepth 100000 in
set_option maxHeartbeats 8000000 in
theorem Chunks_any (l : List Pcl) (pp pc : Option Addr) (cp cc : Nat) (cuts : List Int) (w : World) (hR : PRow w pp w.heap.size l) (hl : l.length ≤ 9223372036854775000) (hZ : ZR w pc w.heap.size cuts) (hcl : cuts.length ≤ 9223372036854775000) (hce : ∀ x ∈ cuts, -9223372036854775808 ≤ x ∧ x ≤ 9223372036854775807) :
    Calls Try.prog 3 #[.slice pp l.length cp, .slice pc cuts.length cc] w fun e w' => e = .returned (.bool true) ∧ Below w.heap.size w w' := by
  have hpc := parcels_any l pp cp w hR hl
  have hgd : ∀ p ∈ (l.take 40).map gdP, Gd p := fun p hp => by
    obtain ⟨q, _, rfl⟩ := List.mem_map.1 hp
    exact gdP_gd q
  have hgl : ((l.take 40).map gdP).length ≤ 40 := by rw [List.length_map, List.length_take]; omega
  generalize (l.take 40).map gdP = G at hpc hgd hgl
  have hlg := lgZ_bd hgd
  have hlg6 := lgZ_6 G
  have hSb := szs_bd G hgd
  have hSs : (sOf (strm G)).size = szs G := by rw [sOf_size, strm_length]
  clear hR hl
  generalize hn : cuts.length = NC at hcl ⊢
  go_enter Try.func3, Try.ntmps3
  go_wp2_with (first
    | (go_at_call 7; refine hpc.mono ?_; rintro _ w1 ⟨v1, rfl, hO, hB⟩; obtain ⟨p1, c1, rfl, hR1⟩ := hO.shape)
    | (go_at_call 8; refine (stream_any G p1 c1 _ hR1 hgd hgl).mono ?_; rintro _ w2 ⟨rfl, hB2⟩; replace hO := hO.below hB2; have hBB := hB.trans (hB2.mono hB.size); clear hB hB2 hR1)
    | (go_at_call 9; refine (New_any _ _).mono ?_; rintro _ w4 ⟨rfl, hw4⟩; have hI : Go.RowKit.Hid (ChS w2 G 0 w4) := ⟨.slice none 0 0, by rw [hw4]; have : rsL G 0 = [] := List.eq_nil_of_length_eq_zero (by rw [rsL_length G 0 (Nat.zero_le _)]; omega); rw [this]; exact Fr.new _ (Nat.le_refl _), by have : rsL G 0 = [] := List.eq_nil_of_length_eq_zero (by rw [rsL_length G 0 (Nat.zero_le _)]; omega); rw [this]; exact Buf.nil _ _, by rw [hw4]; exact bel1 _ _⟩; clear hw4))
  have hRow : Go.RowKit.Hid (PRow w2 p1 w2.heap.size G) := hO.row
  have hBB2 : Go.RowKit.Hid (Below w.heap.size w w2) := hBB
  have hj0 : jN G 0 = 0 := by
    cases G with
    | nil => rfl
    | cons p r => rw [jN, if_neg (by unfold szP; omega)]
  clear hpc hO hBB
  go_loopw [10, 11, 12, 13] (fun a b c d wr => ∃ i m : Nat, a = .int .i64 ((jN G m : Nat) : Int) ∧ b = .int .i64 (m : Int) ∧ c = .int .i64 ((szs (G.take (jN G m)) : Nat) : Int) ∧ d = .int .i64 (i : Int) ∧ i ≤ NC + 1 ∧ m ≤ szs G ∧ (i = NC + 1 → m = szs G) ∧ Go.RowKit.Hid (ChS w2 G m wr)) (fun _ _ _ d _ => NC + 1 - (intOf d).toNat)
  case atStart =>
    refine ⟨0, 0, by rw [hj0]; rfl, rfl, by rw [hj0]; rfl, rfl, by omega, Nat.zero_le _, by omega, hI⟩
  case round => as_aux_lemma =>
    obtain ⟨i, m, rfl, rfl, rfl, rfl, hi, hm, him, hS⟩ := hrel
    by_cases hlt : i ≤ NC
    · have hlti : (i : Int) ≤ (NC : Int) := by omega
      have s1 : IntKind.i64.wrap ((szs G : Int) - (m : Int)) = ((szs G - m : Nat) : Int) := by rw [IntKind.wrap_i64]; omega
      go_upto_if 55 with fail
      go_cut [14] from 42 to 163 (fun s wx => ∃ n : Nat, s = .int .i64 (n : Int) ∧ m + n ≤ szs G ∧ (i = NC → m + n = szs G) ∧ wx = wr)
      case first => as_aux_lemma =>
        by_cases h1 : i < NC
        · obtain ⟨x, hx⟩ : ∃ x, cuts[i]? = some x := ⟨cuts[i], List.getElem?_eq_getElem (by omega)⟩
          obtain ⟨g, o, rfl, hg, q0⟩ := hZ.c i x hx
          obtain ⟨v, hF, hBf, hC⟩ := hS
          have hbw : Below w.heap.size w wr := Below.trans hBB2 (hC.mono hBB2.size)
          have r0 := (hbw.cell (p := ⟨g, o + i, none⟩) hg).trans q0
          have hxb := hce x (List.mem_of_getElem? hx)
          have h1i : (i : Int) < (NC : Int) := by omega
          clear hF hBf hC hbw q0 hZ hce hRow hBB2
          by_cases h2 : x < 0
          · have s2 : IntKind.i64.wrap (x + 1) = x + 1 := by rw [IntKind.wrap_i64]; omega
            have s3 : IntKind.i64.wrap (-(x + 1)) = ((-(x + 1)).toNat : Int) := by rw [IntKind.wrap_i64]; omega
            have s4 : -(x + 1) = ((-(x + 1)).toNat : Int) := by omega
            generalize (-(x + 1)).toNat = y at *
            go_wp2_with fail
            all_goals
              go_meet
              case rel => exact ⟨min (szs G - m) (y % 64), by congr 1; omega, by omega, by omega, rfl⟩
          · obtain ⟨y, rfl⟩ : ∃ y : Nat, x = (y : Int) := ⟨x.toNat, by omega⟩
            go_wp2_with fail
            all_goals
              go_meet
              case rel => exact ⟨min (szs G - m) (y % 64), by congr 1; omega, by omega, by omega, rfl⟩
        · have h1i : ¬ (i : Int) < (NC : Int) := by omega
          clear hZ hce hRow hBB2
          go_wp2_with fail
          go_meet
          case rel => exact ⟨szs G - m, rfl, by omega, by omega, rfl⟩
      case rest => as_aux_lemma =>
        obtain ⟨n, rfl, hmn, hin, hw⟩ := hcut
        subst hw
        obtain ⟨v, hF, hBf, hC⟩ := hS
        clear hZ hce him s1
        have f1 := fun W v h1 h2 => @feed_step W w2.heap.size w2.heap.size v G m n hgd hgl hmn h1 h2
        have hq := rsL_length G m hm
        have hq2 := rsL_length G (m + n) hmn
        have hneed := need_no G hgd m n hmn
        have hja := jN_szs G m
        have hja2 := jN_szs G (m + n)
        have hjl := jN_le G (m + n)
        have hjle : jN G m ≤ jN G (m + n) := by rw [jN_add]; omega
        have hcvM := conv_n (((strm G).drop m).take n)
        have hxM : (sOf (strm G)).extract m (m + n) = sOf (((strm G).drop m).take n) := by
          apply lOf_inj
          rw [lOf_extract, lOf_sOf _ (strm_lt G), lOf_sOf _ (fun b hb => strm_lt G b (List.mem_of_mem_drop (List.mem_of_mem_take hb))), Nat.add_sub_cancel_left]
        generalize ((strm G).drop m).take n = M at f1 hcvM hxM
        have s2 : IntKind.i64.wrap ((m : Int) + (n : Int)) = ((m + n : Nat) : Int) := by rw [IntKind.wrap_i64]; omega
        have s2' : (m : Int) + (n : Int) = ((m + n : Nat) : Int) := by omega
        have hmi : ((m + n : Nat) : Int) ≤ ((szs G : Nat) : Int) := by omega
        have hmi2 : (m : Int) ≤ ((m + n : Nat) : Int) := by omega
        obtain ⟨m2, hm2⟩ : ∃ m2, m + n = m2 := ⟨_, rfl⟩
        rw [hm2] at f1 hq2 hneed hja2 hjl hjle s2 s2' hmi hmi2 hin hmn hxM
        go_upto_region 24 with (first
          | (go_at_call 10; refine (Held_n hF hq).mono ?_; rintro _ w5 ⟨rfl, hb⟩; replace hC := hC.trans (hb.mono hC.size); replace hF := hF.below hb; replace hBf := hBf.below hb; clear hb)
          | (go_at_call 11; refine (Need_any hF).mono ?_; rintro _ w6 ⟨rfl, hb⟩; replace hC := hC.trans (hb.mono hC.size); replace hF := hF.below hb; replace hBf := hBf.below hb; clear hb)
          | (go_at_call 12; refine (f1 _ _ hF hBf).mono ?_; rintro _ w7 ⟨pm, cm, v7, rfl, hP7, hF7, hB7, hK7⟩; replace hC := hC.trans (hK7.below' (Nat.le_refl _) hC.size (fun k hk => (hF.buf.lt hk).1)); clear hF hBf f1 hcvM))
        go_cut [18, 108] from 42 to 163 (fun b s wx => b = .slice pm (jN G m2 - jN G m) cm ∧ s = .bool false ∧ Go.RowKit.Hid (PRow wx pm wx.heap.size ((G.drop (jN G m)).take (jN G m2 - jN G m)) ∧ ChS w2 G m2 wx))
        case first => as_aux_lemma =>
          by_cases hnd : (n : Int) < ndZ (rsL G m) 0
          · have hk := hneed hnd
            have hz : jN G m2 - jN G m = 0 := by omega
            have hq3 : (rsL G m2).length = m - szs (G.take (jN G m)) + n := by rw [hq2, hk]; rw [hk] at hja2; omega
            have hzi : ((jN G m2 - jN G m : Nat) : Int) = 0 := by omega
            have s3 : IntKind.i64.wrap (((m - szs (G.take (jN G m)) : Nat) : Int) + (n : Int)) = ((m - szs (G.take (jN G m)) + n : Nat) : Int) := by rw [IntKind.wrap_i64]; omega
            have s3' : ((m - szs (G.take (jN G m)) : Nat) : Int) + (n : Int) = ((m - szs (G.take (jN G m)) + n : Nat) : Int) := by omega
            generalize m - szs (G.take (jN G m)) + n = Q at *
            go_wp2_with (first
              | (go_at_call 13; refine (num_any _ _).mono ?_; rintro _ _ ⟨rfl, rfl⟩)
              | (go_at_call 10; refine (Held_n hF7 hq3).mono ?_; rintro _ w8 ⟨rfl, hb⟩; replace hC := hC.trans (hb.mono hC.size); replace hF7 := hF7.below hb; replace hB7 := hB7.below hb; replace hP7 := (hP7.below hb).mono hb.size; clear hb))
            go_meet
            case rel => exact ⟨by rw [hz], rfl, hP7, v7, hF7, hB7, hC⟩
          · go_wp2_with (go_at_call 13; refine (num_any _ _).mono ?_; rintro _ _ ⟨rfl, rfl⟩)
            go_meet
            case rel => exact ⟨rfl, rfl, hP7, v7, hF7, hB7, hC⟩
        case rest => as_aux_lemma =>
          obtain ⟨rfl, rfl, hPS⟩ := hcut
          obtain ⟨hP, v, hF, hBf, hC⟩ := hPS
          clear hneed hP7 hF7 hB7 hK7 hja
          have hrow : PRow wc p1 wc.heap.size G := (PRow.below hRow hC).mono hC.size
          generalize hJ : jN G m2 - jN G m = J at *
          have hkk : jN G m + J = jN G m2 := by omega
          generalize hk1 : jN G m = k1 at *
          go_upto_block 2 with fail
          go_cut [10, 12] from 42 to 163 (fun a c wx => a = .int .i64 ((jN G m2 : Nat) : Int) ∧ c = .int .i64 ((szs (G.take (jN G m2)) : Nat) : Int) ∧ ∃ d, wx = wc.drewN d)
          case first => as_aux_lemma =>
            go_wp2_with fail
            go_loopw [10, 12, 20] (fun a b c wr => ∃ x d : Nat, x ≤ J ∧ a = .int .i64 ((k1 + x : Nat) : Int) ∧ b = .int .i64 ((szs (G.take (k1 + x)) : Nat) : Int) ∧ c = .int .i64 (x : Int) ∧ Go.RowKit.Hid (wr = wc.drewN d)) (fun _ _ c _ => J - (intOf c).toNat)
            case atStart => exact ⟨0, 0, Nat.zero_le _, rfl, rfl, rfl, rfl⟩
            case round =>
              obtain ⟨x, d, hx, rfl, rfl, rfl, hd⟩ := hrel
              have hd0 : wr = wc.drewN d := hd
              by_cases hlx : x < J
              · have hq1 : G[k1 + x]? = some G[k1 + x] := List.getElem?_eq_getElem (by omega)
                have hq2 : ((G.drop k1).take J)[x]? = some G[k1 + x] := by rw [List.getElem?_take_of_lt hlx, List.getElem?_drop]; exact hq1
                have hpb := (hgd _ (List.getElem_mem (show k1 + x < G.length by omega))).b
                have hsn : szs (G.take (k1 + x + 1)) = szs (G.take (k1 + x)) + szP G[k1 + x] := by rw [List.take_succ_eq_append_getElem (by omega), szs_append]; simp [szs]
                obtain ⟨g, o, rfl, _, q0, q1⟩ := hP.c x _ hq2
                obtain ⟨g2, o2, rfl, _, q2, q3⟩ := hrow.c (k1 + x) _ hq1
                have hcd : ∀ a, wr.cell? a = wc.cell? a := fun a => by rw [hd0]; rfl
                have r0 := (hcd _).trans q0
                have r1 := (hcd _).trans q1
                have r2 := (hcd _).trans q2
                have r3 := (hcd _).trans q3
                have rel : ∀ q, Go.RowKit.Hid (wr.drewN q = wc.drewN (d + q)) := fun q => by rw [hd0]; exact drewN_add _ _ _
                generalize G[k1 + x] = p at *
                have hsz : szP p = p.b.size + 6 := rfl
                have hszb : szs (G.take (k1 + x)) ≤ 20000 := by
                  have := szs_bd (G.take (k1 + x)) (fun q hq => hgd q (List.mem_of_mem_take hq))
                  rw [List.length_take] at this
                  omega
                obtain ⟨y, hy⟩ : ∃ y, k1 + x = y := ⟨_, rfl⟩
                rw [hy] at r2 r3 hsn hszb ⊢
                have hyl : (y : Int) < (G.length : Int) := by omega
                have hylN : y < G.length := by omega
                have hlxi : (x : Int) < (J : Int) := by omega
                obtain ⟨e, he⟩ : ∃ e, szs (G.take y) = e := ⟨_, rfl⟩
                rw [he] at hsn hszb ⊢
                clear hd0 hd q0 q1 q2 q3 hcd hq1 hq2 hP hrow hF hBf hC hRow hBB2
                go_wp2_with fail
                go_quiet (fail)
                go_wp2_with fail
                exact ⟨⟨x + 1, d + nq, by omega, by congr 1; omega, by rw [show k1 + (x + 1) = y + 1 by omega, hsn]; congr 1; omega, by go_num, rel nq⟩, by simp [intOf]; omega⟩
              · obtain rfl : x = J := by omega
                have hlxi : ¬ (x : Int) < (x : Int) := by omega
                rw [hkk]
                clear hP hrow hF hBf hC hRow hBB2 hkk
                go_wp2_with fail
                go_meet
                case rel => exact ⟨rfl, rfl, d, rfl⟩
          case rest => as_aux_lemma =>
            obtain ⟨rfl, rfl, d, hw⟩ := hcut
            have hF2 := hF.drewN d
            have hB2 := hBf.below (below_drewN (Below.refl _ _) d)
            have hC2 := below_drewN hC d
            rw [← hw] at hF2 hB2 hC2
            have hrow2 : PRow wc p1 wc.heap.size G := (PRow.below hRow hC2).mono hC2.size
            clear hF hBf hC hrow hP hw
            have hCs : Go.RowKit.Hid (ChS w2 G m2 wc) := ⟨v, hF2, hB2, hC2⟩
            have hnx := jN_next G m2
            obtain ⟨a2, ha2⟩ : ∃ a2, szs (G.take (jN G m2)) = a2 := ⟨_, rfl⟩
            rw [ha2] at hq2 hja2 hnx ⊢
            go_upto_region 33 with fail
            go_cut [157] from 42 to 163 (fun s wx => s = .bool false ∧ wx = wc)
            case first => as_aux_lemma =>
              by_cases hk : jN G m2 < G.length
              · have hq1 : G[jN G m2]? = some G[jN G m2] := List.getElem?_eq_getElem hk
                have hx2 := hnx _ hq1
                have hpb := (hgd _ (List.getElem_mem hk)).b
                have ha2b : a2 ≤ 20000 := by omega
                have hm2b : m2 ≤ 20000 := by omega
                obtain ⟨g2, o2, rfl, _, q2, q3⟩ := hrow2.c _ _ hq1
                generalize G[jN G m2] = p at *
                have hsz : szP p = p.b.size + 6 := rfl
                generalize jN G m2 = k2 at *
                have hki : (k2 : Int) < (G.length : Int) := by omega
                have hno : ¬ (a2 : Int) + 6 + (p.b.size : Int) ≤ (m2 : Int) := by omega
                clear hF2 hB2 hC2 hrow2 hCs hRow hBB2 hnx hq1 q2
                go_wp2_with fail
                go_meet
                case rel => exact ⟨rfl, rfl⟩
              · have hki : ¬ ((jN G m2 : Nat) : Int) < (G.length : Int) := by omega
                clear hF2 hB2 hC2 hrow2 hCs hRow hBB2 hnx
                go_wp2_with fail
                go_meet
                case rel => exact ⟨rfl, rfl⟩
            case rest => as_aux_lemma =>
              obtain ⟨rfl, hw3⟩ := hcut
              subst hw3
              have s5 : IntKind.i64.wrap ((m2 : Int) - (a2 : Int)) = ((m2 - a2 : Nat) : Int) := by rw [IntKind.wrap_i64]; omega
              have s5' : (m2 : Int) - (a2 : Int) = ((m2 - a2 : Nat) : Int) := by omega
              clear hCs hRow hBB2 hnx hrow2
              go_wp2_with (go_at_call 10; refine (Held_n hF2 hq2).mono ?_; rintro _ w9 ⟨rfl, hb⟩; replace hC2 := hC2.trans (hb.mono hC2.size); replace hF2 := hF2.below hb; replace hB2 := hB2.below hb; clear hb)
              have hfin : Go.RowKit.Hid (ChS w2 G m2 w9) := ⟨v, hF2, hB2, hC2⟩
              refine ⟨⟨i + 1, m2, rfl, rfl, by rw [ha2], by go_num, by omega, hmn, fun h => hin (by omega), hfin⟩, by simp [intOf]; omega⟩
    · have hi2 : i = NC + 1 := by omega
      have hm2 := him hi2
      subst hi2
      subst hm2
      have hlti : ¬ ((NC + 1 : Nat) : Int) ≤ (NC : Int) := by omega
      obtain ⟨v, hF, hBf, hC⟩ := hS
      have hr0 : rsL G (szs G) = [] := List.eq_nil_of_length_eq_zero (by rw [rsL_length G _ (Nat.le_refl _), jN_all, List.take_of_length_le (Nat.le_refl _)]; omega)
      rw [hr0] at hF
      rw [jN_all]
      have nd6 : ndZ [] 0 = 6 := by simp [ndZ]
      have hcD : cutZ (lgZ G : Int) (strm G) = (G, szs G, 0) := by
        have := cut_all (lgZ G : Int) [] G (fun p hp => ⟨hgd p hp, by have := lgZ_le hp; omega⟩)
        rw [List.append_nil] at this
        rw [this, cutZ_no (by unfold lkZ; simp)]
        simp [lkZ, erZ]
      have hsl : (sOf (strm G)).size ≤ 281474976710656 := by rw [hSs]; omega
      have cS1 := fun W => Split_any (lgZ G : Int) (sOf (strm G)) W hsl (by rw [lOf_sOf _ (strm_lt G), hcD]; show G.length ≤ _; omega)
      rw [lOf_sOf _ (strm_lt G), hcD] at cS1
      obtain ⟨C, hCe⟩ : ∃ C, cutZ ((lgZ G : Int) - 1) (strm G) = C := ⟨_, rfl⟩
      have hCl : C.1.length ≤ 20000 := by have h1 := cutZ_le ((lgZ G : Int) - 1) (strm G); rw [hCe, strm_length] at h1; omega
      have cS2 := fun W => Split_any ((lgZ G : Int) - 1) (sOf (strm G)) W hsl (by rw [lOf_sOf _ (strm_lt G), hCe]; omega)
      rw [lOf_sOf _ (strm_lt G), hCe] at cS2
      obtain ⟨j, hjl, hCj, hjs, hfin⟩ : ∃ j, j ≤ G.length ∧ C.1 = G.take j ∧ (∀ x p, x < j → G[x]? = some p → (szP p : Int) ≤ (lgZ G : Int) - 1) ∧ ((G.length = 0 ∧ C.2.2 = 0 ∧ C.2.1 = 0) ∨ (0 < G.length ∧ C.2.2 = 240 ∧ j < G.length ∧ ∃ p, G[j]? = some p ∧ szP p = lgZ G)) := by
        cases hG0 : G with
        | nil =>
          refine ⟨0, Nat.le_refl _, ?_, fun x p hx => by omega, .inl ⟨rfl, ?_, ?_⟩⟩
          all_goals
            rw [← hCe, hG0]
            show _ = _
            rw [show strm [] = [] from rfl, cutZ_no (by unfold lkZ; simp)]
            try simp [lkZ, erZ]
        | cons p0 r0 =>
          have hne : ∃ p ∈ G, (lgZ G : Int) - 1 < (szP p : Int) := by
            rcases lgF_at G 6 with e | ⟨p, hp, e⟩
            · refine ⟨p0, by rw [hG0]; exact List.mem_cons_self .., ?_⟩
              have : lgZ G = 6 := e
              unfold szP
              omega
            · refine ⟨p, hp, ?_⟩
              have : szP p = lgZ G := e
              omega
          obtain ⟨j, p, e1, e2, e3, e4, e5⟩ := cut_low ((lgZ G : Int) - 1) G hgd hne
          rw [hCe] at e4 e5
          have hjlt : j < G.length := (List.getElem?_eq_some_iff.1 e1).1
          have hmem : p ∈ G := List.mem_of_getElem? e1
          rw [← hG0]
          refine ⟨j, by omega, e4, fun x q hx hq => e3 q ?_, .inr ⟨by omega, e5, hjlt, p, e1, by have := lgZ_le hmem; omega⟩⟩
          exact List.mem_of_getElem? (i := x) (by rw [List.getElem?_take_of_lt hx]; exact hq)
      have hCn : C.1.length = j := by rw [hCj, List.length_take]; omega
      have s1' : IntKind.i64.wrap ((lgZ G : Int) - 1) = (lgZ G : Int) - 1 := by rw [IntKind.wrap_i64]; omega
      clear hCe hcD hBf him
      have F1 : True := trivial
      go_wp2_with (first
        | (go_at_call 10; refine (Held_n (n := 0) hF rfl).mono ?_; rintro _ w7 ⟨rfl, hb⟩; replace hC := hC.trans (hb.mono hC.size); replace hF := hF.below hb; clear hb)
        | (go_at_call 11; refine (Need_any hF).mono ?_; rintro _ w8 ⟨rfl, hb⟩; rw [nd6]; replace hC := hC.trans (hb.mono hC.size); replace hF := hF.below hb; clear hb)
        | (go_at_call 14; clear F1; refine (cS1 _).mono ?_; rintro _ w11 ⟨v11, rfl, hP11, hb⟩; obtain ⟨p11, c11, rfl, _⟩ := hP11.shape; replace hC := hC.trans (hb.mono hC.size); clear hb hF)
        | (go_at_call 15; refine (same_self G p11 p1 c11 c1 w11.heap.size w11 hP11.row ((PRow.below hRow hC).mono hC.size) (by omega)).mono ?_; rintro _ w12 ⟨rfl, hb⟩; replace hC := hC.trans (hb.mono hC.size); clear hb)
        | (go_at_call 13; refine (num_any _ _).mono ?_; rintro _ _ ⟨rfl, rfl⟩)
        | (go_at_call 14; refine (cS2 _).mono ?_; rintro _ w13 ⟨v13, rfl, hP13, hb⟩; rw [hCj] at hP13; obtain ⟨p13, c13, rfl, hr13⟩ := hP13.shape; replace hC := hC.trans (hb.mono hC.size); clear hb hP13))
      have hrow : PRow w13 p1 w13.heap.size G := (PRow.below hRow hC).mono hC.size
      have hout : ∀ d, Below w.heap.size w (w13.drewN d) := fun d => below_drewN (Below.trans hBB2 (hC.mono hBB2.size)) d
      clear hRow hBB2 hC cS1 cS2 hP11 hZ hce
      go_loopw [27] (fun a wr => ∃ x d : Nat, x ≤ j ∧ a = .int .i64 (x : Int) ∧ Go.RowKit.Hid (wr = w13.drewN d)) (fun a _ => j - (intOf a).toNat)
      case atStart => exact ⟨0, 0, Nat.zero_le _, rfl, rfl⟩
      case round => as_aux_lemma =>
        obtain ⟨x, d, hx, rfl, hd⟩ := hrel
        have hd0 : wr = w13.drewN d := hd
        have hcd : ∀ a, wr.cell? a = w13.cell? a := fun a => by rw [hd0]; rfl
        have rel : ∀ q, Go.RowKit.Hid (wr.drewN q = w13.drewN (d + q)) := fun q => by rw [hd0]; exact drewN_add _ _ _
        by_cases hlx : x < j
        · have hq1 : G[x]? = some G[x] := List.getElem?_eq_getElem (by omega)
          have hq2 : (G.take j)[x]? = some G[x] := by rw [List.getElem?_take_of_lt hlx]; exact hq1
          have hle := hjs x _ hlx hq1
          obtain ⟨g, o, rfl, _, q0, q1⟩ := hr13.c x _ hq2
          obtain ⟨g2, o2, rfl, _, q2, q3⟩ := hrow.c x _ hq1
          have r0 := (hcd _).trans q0
          have r1 := (hcd _).trans q1
          have r2 := (hcd _).trans q2
          have r3 := (hcd _).trans q3
          generalize G[x] = p at *
          have hsz : szP p = p.b.size + 6 := rfl
          have hxl : (x : Int) < (G.length : Int) := by omega
          have hlxi : (x : Int) < (j : Int) := by omega
          have hlei : ¬ (lgZ G : Int) - 1 < (p.b.size : Int) + 6 := by omega
          have hxlN : x < G.length := by omega
          have s6 : IntKind.i64.wrap ((p.b.size : Int) + 6) = (p.b.size : Int) + 6 := by rw [IntKind.wrap_i64]; omega
          clear hd0 hd q0 q1 q2 q3 hcd hq1 hq2 hr13 hrow hjs hfin hout
          go_wp2_with fail
          go_quiet (fail)
          go_wp2_with fail
          exact ⟨⟨x + 1, d + nq, by omega, by go_num, rel nq⟩, by simp [intOf]; omega⟩
        · obtain rfl : x = j := by omega
          have hlxi : ¬ (x : Int) < (x : Int) := by omega
          have ho := hout d
          rw [← hd0] at ho
          rcases hfin with ⟨h1, h2, h3⟩ | ⟨h1, h2, h3, p, h4, h5⟩
          · have h1i : (G.length : Int) = 0 := by omega
            have h3i : ((C.2.1 : Nat) : Int) = 0 := by omega
            rw [h2, h3i] at *
            clear hd0 hd hcd hr13 hrow hjs hout rel
            go_wp2_with (go_at_call 13; refine (num_any _ _).mono ?_; rintro _ _ ⟨rfl, rfl⟩)
            go_ret
            exact ⟨rfl, ho⟩
          · obtain ⟨g2, o2, rfl, _, q2, q3⟩ := hrow.c x _ h4
            have r3 := (hcd _).trans q3
            have h1i : ¬ (G.length : Int) = 0 := by omega
            have h1b : ((G.length : Int) == 0) = false := beq_eq_false_iff_ne.2 h1i
            have h3i : (x : Int) < (G.length : Int) := by omega
            have hsz : szP p = p.b.size + 6 := rfl
            have s6 : IntKind.i64.wrap ((p.b.size : Int) + 6) = (lgZ G : Int) := by rw [IntKind.wrap_i64]; omega
            have s6' : (p.b.size : Int) + 6 = (lgZ G : Int) := by omega
            clear hd0 hd hcd hr13 hrow hjs hout rel h4 h5 hsz q2 q3
            go_wp2_with (go_at_call 13; refine (num_any _ _).mono ?_; rintro _ _ ⟨rfl, rfl⟩)
            go_ret
            exact ⟨by simp, ho⟩
end Go.Proofs.Ytnicdehbedcdpaa
