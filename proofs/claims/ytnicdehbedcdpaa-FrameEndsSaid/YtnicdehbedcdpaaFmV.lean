/- The law FrameEnds. -/
import Derived.Test.YtnicdehbedcdpaaFmW
import Derived.Test.YtnicdehbedcdpaaFmR
namespace Go.Proofs.Ytnicdehbedcdpaa
open Go.ChangeShapes Go.WideShapes Go.ChangeAt Go.RowKit

set_option maxRecDepth 100000 in
set_option maxHeartbeats 8000000 in
theorem Ends_any (l : List Pcl) (pp pm : Option Addr) (cp cm : Nat) (lz kd : Int) (rest : ByteArray) (more : List Nat) (w : World) (hR : PRow w pp w.heap.size l) (hl : l.length ≤ 9223372036854775000) (hlz : -9223372036854775808 ≤ lz ∧ lz ≤ 9223372036854775807) (hkd : -9223372036854775808 ≤ kd ∧ kd ≤ 9223372036854775807) (hrest : rest.size ≤ 140737488355000) :
    Calls Try.prog 4 #[.slice pp l.length cp, .int .i64 lz, .int .i64 kd, .string rest, .slice pm more.length cm] w fun e w' => e = .returned (.bool true) ∧ Below w.heap.size w w' := by
  have hpc := parcels_any l pp cp w hR hl
  have hgd : ∀ p ∈ (l.take 40).map gdP, Gd p := fun p hp => by
    obtain ⟨q, _, rfl⟩ := List.mem_map.1 hp
    exact gdP_gd q
  have hgl : ((l.take 40).map gdP).length ≤ 40 := by rw [List.length_map, List.length_take]; omega
  generalize (l.take 40).map gdP = G at hpc hgd hgl
  have hlg := lgZ_bd hgd
  clear hR hl
  go_enter Try.func4, Try.ntmps4
  go_upto_if 37 with (first
    | (go_at_call 7; refine hpc.mono ?_; rintro _ w1 ⟨v1, rfl, hO, hB⟩; obtain ⟨p1, c1, rfl, hR1⟩ := hO.shape)
    | (go_at_call 8; refine (stream_any G p1 c1 _ hR1 hgd hgl).mono ?_; rintro _ w2 ⟨rfl, hB2⟩; replace hO := hO.below hB2; have hBB := hB.trans (hB2.mono hB.size)))
  clear hR1 hpc hB hB2
  go_cut [1] from 26 (fun s wx => ∃ L : Nat, s = .int .i64 (L : Int) ∧ L ≤ 9223372036854775807 ∧ wx = w2)
  case first => as_aux_lemma =>
    by_cases h : lz < 0
    · have s1 : IntKind.i64.wrap (lz + 1) = lz + 1 := by rw [IntKind.wrap_i64]; omega
      have s2 : IntKind.i64.wrap (-(lz + 1)) = -(lz + 1) := by rw [IntKind.wrap_i64]; omega
      go_wp2_with fail
      go_meet
      case rel => exact ⟨(-(lz + 1)).toNat, by congr 1; omega, by omega, rfl⟩
    · go_wp2_with fail
      go_meet
      case rel => exact ⟨lz.toNat, by congr 1; omega, by omega, rfl⟩
  case rest =>
    obtain ⟨L, rfl, hL, rfl⟩ := hcut
    generalize hg : lgZ G = g at *
    go_upto_if 45 with fail
    go_cut [15] from 26 (fun s wx => ∃ N : Int, s = .int .i64 N ∧ (L % 3 = 1 → N = (g : Int) + 1 + ((L % 1000 : Nat) : Int)) ∧ (L % 3 ≠ 1 → N = ((L % 6 : Nat) : Int)) ∧ wx = wc)
    case first => as_aux_lemma =>
      by_cases h : L % 3 = 1
      · have hi : (L : Int) % 3 = 1 := by omega
        have s1 : IntKind.i64.wrap ((g : Int) + 1) = (g : Int) + 1 := by rw [IntKind.wrap_i64]; omega
        have s2 : IntKind.i64.wrap ((g : Int) + 1 + (L : Int) % 1000) = (g : Int) + 1 + (L : Int) % 1000 := by rw [IntKind.wrap_i64]; omega
        go_wp2_with fail
        go_meet
        case rel => exact ⟨_, rfl, (fun _ => by omega), (fun h' => absurd h h'), rfl⟩
      · have hi : ¬ (L : Int) % 3 = 1 := by omega
        have hi2 : ((L : Int) % 3 == 1) = false := beq_eq_false_iff_ne.2 hi
        go_wp2_with fail
        go_meet
        case rel => exact ⟨_, rfl, (fun h' => absurd h' h), (fun _ => by omega), rfl⟩
    case rest =>
      obtain ⟨N, rfl, hN1, hN2, rfl⟩ := hcut
      go_upto_if 53 with fail
      go_cut [15, 16, 17] from 26 (fun a b c wx => ∃ n want tell : Int, a = .int .i64 n ∧ b = .int .i64 want ∧ c = .int .i64 tell ∧ ((want = 240 ∧ tell = 4 ∧ 0 ≤ n ∧ (n < 6 ∨ (g : Int) < n) ∧ n ≤ 2000) ∨ (want = 241 ∧ tell = 6 ∧ n = 6)) ∧ wx = wc)
      case first => as_aux_lemma =>
        by_cases h : L % 3 = 2
        · have hi : (L : Int) % 3 = 2 := by omega
          go_wp2_with fail
          go_meet
          case rel => exact ⟨6, 241, 6, rfl, rfl, rfl, .inr ⟨rfl, rfl, rfl⟩, rfl⟩
        · have hi : ¬ (L : Int) % 3 = 2 := by omega
          have hi2 : ((L : Int) % 3 == 2) = false := beq_eq_false_iff_ne.2 hi
          go_wp2_with fail
          go_meet
          case rel => exact ⟨N, 240, 4, rfl, rfl, rfl, .inl ⟨rfl, rfl, by omega, by omega, by omega⟩, rfl⟩
      case rest =>
        obtain ⟨n, want, tell, rfl, rfl, rfl, hC, rfl⟩ := hcut
        clear hN1 hN2
        go_upto_if 55 with fail
        go_cut [2] from 26 (fun s wx => ∃ K : Nat, s = .int .i64 (K : Int) ∧ K ≤ 9223372036854775807 ∧ wx = wc)
        case first => as_aux_lemma =>
          by_cases h : kd < 0
          · have s1 : IntKind.i64.wrap (kd + 1) = kd + 1 := by rw [IntKind.wrap_i64]; omega
            have s2 : IntKind.i64.wrap (-(kd + 1)) = -(kd + 1) := by rw [IntKind.wrap_i64]; omega
            go_wp2_with fail
            go_meet
            case rel => exact ⟨(-(kd + 1)).toNat, by congr 1; omega, by omega, rfl⟩
          · go_wp2_with fail
            go_meet
            case rel => exact ⟨kd.toNat, by congr 1; omega, by omega, rfl⟩
        case rest =>
          obtain ⟨K, rfl, hK, rfl⟩ := hcut
          have hT0 : ((K % 65536 : Nat) : Int) = (K : Int) % 65536 := by omega
          obtain ⟨t0, ht0⟩ : ∃ t0, K % 65536 = t0 := ⟨_, rfl⟩
          rw [ht0] at hT0
          have ht0l : t0 < 65536 := by omega
          have hT0s := hT0.symm
          go_upto_region 19 with fail
          rw [hT0s]
          clear hT0 hT0s
          go_cut [66] from 26 (fun s wx => s = .bool (knB (t0 : Int)) ∧ wx = wc)
          case first => as_aux_lemma =>
            by_cases h1 : (t0 : Int) = 23520
            · have e : knB (t0 : Int) = true := by unfold knB; simp [h1]
              go_wp2_with fail
              go_meet
              case rel => exact ⟨by rw [e], rfl⟩
            · have h1b : ((t0 : Int) == 23520) = false := beq_eq_false_iff_ne.2 h1
              by_cases h2 : (t0 : Int) = 60240
              · have e : knB (t0 : Int) = true := by unfold knB; simp [h2]
                go_wp2_with fail
                go_meet
                case rel => exact ⟨by rw [e], rfl⟩
              · have h2b : ((t0 : Int) == 60240) = false := beq_eq_false_iff_ne.2 h2
                have e : knB (t0 : Int) = false := by unfold knB; simp [h1, h2]
                go_wp2_with fail
                go_meet
                case rel => exact ⟨by rw [e], rfl⟩
          case rest =>
            obtain ⟨rfl, rfl⟩ := hcut
            go_upto_if 66 with fail
            go_cut [18] from 26 (fun s wx => ∃ t : Nat, s = .int .i64 (t : Int) ∧ t < 65536 ∧ knB (t : Int) = false ∧ wx = wc)
            case first => as_aux_lemma =>
              cases e : knB (t0 : Int) with
              | true =>
                go_wp2_with fail
                go_meet
                case rel => exact ⟨1, rfl, by decide, by decide, rfl⟩
              | false =>
                go_wp2_with fail
                go_meet
                case rel => exact ⟨t0, rfl, ht0l, e, rfl⟩
            case rest =>
              obtain ⟨t, rfl, ht, hkn, rfl⟩ := hcut
              obtain ⟨N, T, rfl, rfl, hQ⟩ : ∃ N T : Nat, n = (N : Int) ∧ tell = (T : Int) ∧ HdQ g N want T t := by
                rcases hC with ⟨rfl, rfl, h1, h2, h3⟩ | ⟨rfl, rfl, rfl⟩
                · exact ⟨n.toNat, 4, by omega, rfl, ⟨by have := lgZ_6 G; omega, ht, hkn, .inl ⟨rfl, rfl, by omega, by omega⟩⟩⟩
                · exact ⟨6, 6, rfl, rfl, ⟨by have := lgZ_6 G; omega, ht, hkn, .inr ⟨rfl, rfl, rfl⟩⟩⟩
              clear hC hkn
              clear hL hK hlz hkd ht0l
              subst hg
              have hN2 : N ≤ 2000 := by rcases hQ.c with ⟨_, _, _, e⟩ | ⟨_, _, e⟩ <;> omega
              have hT6 := hQ.T6
              have bY : ∀ a b c d : Value, Below wc.heap.size wc (wc.alloc (.cells #[.int .u8 0, .int .u8 0, a, b, c, d] 5)) := fun a b c d => bel1 wc _
              have kc : (convert 33 9 (.slice (some ⟨wc.heap.size, 0, none⟩) 6 6)).run Try.prog (wc.alloc (.cells #[.int .u8 0, .int .u8 ((N : Int) / 65536), .int .u8 ((N : Int) / 256 % 256), .int .u8 ((N : Int) % 256), .int .u8 ((t : Int) / 256), .int .u8 ((t : Int) % 256)] 5)) = .ok (.string (sOf (hdL N t))) (wc.alloc (.cells #[.int .u8 0, .int .u8 ((N : Int) / 65536), .int .u8 ((N : Int) / 256 % 256), .int .u8 ((N : Int) % 256), .int .u8 ((t : Int) / 256), .int .u8 ((t : Int) % 256)] 5)) := by
                have hn2 := heap_nw wc (.cells #[.int .u8 0, .int .u8 ((N : Int) / 65536), .int .u8 ((N : Int) / 256 % 256), .int .u8 ((N : Int) % 256), .int .u8 ((t : Int) / 256), .int .u8 ((t : Int) % 256)] 5)
                refine conv_at _ wc.heap.size 0 6 6 (hdL N t) rfl fun k x hx => ?_
                rw [cellA hn2, Nat.zero_add]
                have hk : k < 6 := (List.getElem?_eq_some_iff.1 hx).1
                have hk6 : k = 0 ∨ k = 1 ∨ k = 2 ∨ k = 3 ∨ k = 4 ∨ k = 5 := by omega
                rcases hk6 with rfl | rfl | rfl | rfl | rfl | rfl
                all_goals
                  cases hx
                  simp
                  try omega
              have hO0 := hO.below (bel1 wc (.cells #[.int .u8 0, .int .u8 ((N : Int) / 65536), .int .u8 ((N : Int) / 256 % 256), .int .u8 ((N : Int) % 256), .int .u8 ((t : Int) / 256), .int .u8 ((t : Int) % 256)] 5))
              have hB0 := hBB.trans ((bel1 wc (.cells #[.int .u8 0, .int .u8 ((N : Int) / 65536), .int .u8 ((N : Int) / 256 % 256), .int .u8 ((N : Int) % 256), .int .u8 ((t : Int) / 256), .int .u8 ((t : Int) % 256)] 5)).mono hBB.size)
              go_upto_region 22 with fail
              clear kc bY hO hBB
              generalize wc.alloc (.cells #[.int .u8 0, .int .u8 ((N : Int) / 65536), .int .u8 ((N : Int) / 256 % 256), .int .u8 ((N : Int) % 256), .int .u8 ((t : Int) / 256), .int .u8 ((t : Int) % 256)] 5) = w3 at *
              obtain ⟨TL, hTL⟩ : ∃ TL, T - 1 = TL := ⟨_, rfl⟩
              have hTL5 : TL ≤ 6 := by omega
              have hTLi : (T : Int) - 1 = (TL : Int) := by omega
              have s1 : IntKind.i64.wrap ((T : Int) - 1) = (TL : Int) := by rw [IntKind.wrap_i64]; omega
              have hHs : (sOf (hdL N t)).size = 6 := by rw [sOf_size]; rfl
              have hx1 : (sOf (hdL N t)).extract 0 TL = sOf ((hdL N t).take TL) := by
                apply lOf_inj
                rw [lOf_extract, lOf_sOf _ (hdL_lt N t), lOf_sOf _ (fun b hb => hdL_lt N t b (List.mem_of_mem_take hb)), List.drop_zero, Nat.sub_zero]
              have hx2 : (sOf (hdL N t)).extract TL 6 = sOf ((hdL N t).drop TL) := sOf_drop (hdL N t) TL (hdL_lt N t)
              have hx3 : sOf (strm G) ++ sOf ((hdL N t).take TL) = sOf (strm G ++ (hdL N t).take TL) := (sOf_append _ _).symm
              have hx4 : sOf ((hdL N t).drop TL) ++ rest = sOf ((hdL N t).drop TL ++ lOf rest) := by rw [sOf_append, sOf_lOf]
              have hx5 : sOf (strm G) ++ sOf (hdL N t) = sOf (strm G ++ hdL N t) := (sOf_append _ _).symm
              have hx6 : sOf (strm G ++ hdL N t) ++ rest = sOf (strm G ++ (hdL N t ++ lOf rest)) := by rw [← List.append_assoc, sOf_append, sOf_append _ (lOf rest), sOf_lOf, ← sOf_append]
              have hSs : (sOf (strm G)).size = szs G := by rw [sOf_size, strm_length]
              have hSb := szs_bd G hgd
              have hz3 : (sOf (strm G)).size + (sOf ((hdL N t).take TL)).size ≤ 9223372036854775807 := by rw [hSs, sOf_size, List.length_take]; have := hd_len N t; omega
              have hz3n : ¬ 9223372036854775807 < (sOf (strm G)).size + (sOf ((hdL N t).take TL)).size := by omega
              have hz4 : (sOf ((hdL N t).drop TL)).size + rest.size ≤ 9223372036854775807 := by rw [sOf_size, List.length_drop]; have := hd_len N t; omega
              have hz4n : ¬ 9223372036854775807 < (sOf ((hdL N t).drop TL)).size + rest.size := by omega
              have hz5 : (sOf (strm G)).size + (sOf (hdL N t)).size ≤ 9223372036854775807 := by rw [hSs, hHs]; omega
              have hz5n : ¬ 9223372036854775807 < (sOf (strm G)).size + (sOf (hdL N t)).size := by omega
              have hz6 : (sOf (strm G ++ hdL N t)).size + rest.size ≤ 9223372036854775807 := by rw [sOf_size, List.length_append, strm_length]; have := hd_len N t; omega
              have hz6n : ¬ 9223372036854775807 < (sOf (strm G ++ hdL N t)).size + rest.size := by omega
              have cv1 := conv_n (strm G ++ (hdL N t).take TL)
              have cv2 := conv_n ((hdL N t).drop TL ++ lOf rest)
              have hlD : ∀ b ∈ strm G ++ (hdL N t ++ lOf rest), b < 256 := fun b hb => by
                rcases List.mem_append.1 hb with hb | hb
                · exact strm_lt G b hb
                · rcases List.mem_append.1 hb with hb | hb
                  · exact hdL_lt N t b hb
                  · exact lOf_lt rest b hb
              have hcD : cutZ (lgZ G : Int) (strm G ++ (hdL N t ++ lOf rest)) = (G, szs G, want) := by
                rw [cut_all _ _ G (fun p hp => ⟨hgd p hp, by have := lgZ_le hp; omega⟩), hQ.no]
                simp
              have cSp := fun W => Split_any (lgZ G : Int) (sOf (strm G ++ (hdL N t ++ lOf rest))) W (by rw [sOf_size, List.length_append, List.length_append, strm_length, lOf_length]; have := hd_len N t; omega) (by rw [lOf_sOf _ hlD, hcD]; show G.length ≤ _; omega)
              rw [lOf_sOf _ hlD, hcD] at cSp
              have f1 := fun w4 R v => @feed_one w4 w3.heap.size R N T t v want G hQ hgd hgl
              have f2 := fun w4 R v => @feed_two w4 w3.heap.size R N T t v want G (lOf rest) hQ
              have hnd := hQ.beg.2
              have hlT : ((hdL N t).take TL).length = TL := by rw [List.length_take, hd_len]; omega
              have hwn := hQ.wn
              have ndw : ndZ [] want = 0 := by unfold ndZ; rw [if_pos hwn]
              have hRl := lOf_lt rest
              have hRz := lOf_length rest
              rw [hTL] at f1 f2 hnd
              have hnd2 : ¬ ndZ ((hdL N t).take TL) 0 < 1 := by omega
              clear hQ hcD hlD hT6 hTL hN2
              generalize hdL N t = HD at *
              generalize strm G ++ HD.take TL = M1 at *
              generalize HD.drop TL ++ lOf rest = M2 at *
              generalize strm G ++ (HD ++ lOf rest) = M3 at *
              generalize strm G ++ HD = M4 at *
              generalize HD.take TL = M5 at *
              generalize HD.drop TL = M6 at *
              have F1 : True := trivial
              have F2 : True := trivial
              have F3 : True := trivial
              have F4 : True := trivial
              have F5 : True := trivial
              have F6 : True := trivial
              have F7 : True := trivial
              go_wp2_with (first
                | (go_at_call 9; refine (New_any _ _).mono ?_; rintro _ w4 ⟨rfl, hw4⟩; have hF : Fr w4 w3.heap.size w3.heap.size (.slice none 0 0) [] 0 (lgZ G : Int) 0 := (by rw [hw4]; exact Fr.new _ (Nat.le_refl _)); have hBf : Buf w4 w3.heap.size (.slice none 0 0) [] := Buf.nil _ _; have HC : Below w3.heap.size w3 w4 := (by rw [hw4]; exact bel1 _ _); clear hw4)
                | (go_at_call 12; clear F1; refine (f1 _ _ _ hF hBf).mono ?_; rintro _ w5 ⟨pm1, cm1, v5, rfl, hP5, hF5, hB5, hK5⟩; replace HC := HC.trans (hK5.below' (Nat.le_refl _) HC.size (fun k hk => by cases hk)); clear hF hBf f1 cv1)
                | (go_at_call 15; clear F2; refine (same_self G pm1 p1 cm1 c1 w5.heap.size w5 hP5.row (hO0.below HC).row (by omega)).mono ?_; rintro _ w6 ⟨rfl, hb⟩; replace HC := HC.trans (hb.mono HC.size); replace hF5 := hF5.below hb; replace hB5 := hB5.below hb; clear hb)
                | (go_at_call 13; refine (num_any _ _).mono ?_; rintro _ _ ⟨rfl, rfl⟩)
                | (go_at_call 10; clear F3; refine (Held_n hF5 hlT).mono ?_; rintro _ w7 ⟨rfl, hb⟩; replace HC := HC.trans (hb.mono HC.size); replace hF5 := hF5.below hb; replace hB5 := hB5.below hb; clear hb)
                | (go_at_call 11; clear F4; refine (Need_any hF5).mono ?_; rintro _ w8 ⟨rfl, hb⟩; replace HC := HC.trans (hb.mono HC.size); replace hF5 := hF5.below hb; replace hB5 := hB5.below hb; clear hb)
                | (go_at_call 12; clear F5; refine (f2 _ _ _ hF5 hB5 hRl (by omega)).mono ?_; rintro _ w9 ⟨pm2, cm2, v9, rfl, hF9, hK9⟩; replace HC := HC.trans (hK9.below' (Nat.le_refl _) HC.size (fun k hk => (hF5.buf.lt hk).1)); clear hF5 hB5 f2 cv2 hnd hnd2)
                | (go_at_call 10; refine (Held_n (n := 0) hF9 rfl).mono ?_; rintro _ w7 ⟨rfl, hb⟩; replace HC := HC.trans (hb.mono HC.size); replace hF9 := hF9.below hb; clear hb)
                | (go_at_call 11; refine (Need_any hF9).mono ?_; rintro _ w8 ⟨rfl, hb⟩; rw [ndw]; replace HC := HC.trans (hb.mono HC.size); replace hF9 := hF9.below hb; clear hb)
                | (go_at_call 12; refine (Feed_ref hF9 hwn).mono ?_; rintro _ w10 ⟨rfl, hF10, hK10⟩; replace HC := HC.trans (hK10.below (Nat.le_refl _) HC.size); have hF9 := hF10; clear hF10)
                | (go_at_call 14; refine (cSp _).mono ?_; rintro _ w11 ⟨v11, rfl, hP11, hb⟩; obtain ⟨p11, c11, rfl, _⟩ := hP11.shape; replace HC := HC.trans (hb.mono HC.size); clear hb)
                | (go_at_call 15; refine (same_self G p11 p1 c11 c1 w11.heap.size w11 hP11.row (hO0.below HC).row (by omega)).mono ?_; rintro _ w12 ⟨rfl, hb⟩; replace HC := HC.trans (hb.mono HC.size); clear hb))
              go_ret
              exact ⟨rfl, hB0.trans (HC.mono hB0.size)⟩
end Go.Proofs.Ytnicdehbedcdpaa
